/- Bytes read as a leaf: the document's own. -/
import Derived.Test.YteafbfhojhpbgaaDerZa
namespace Go.Proofs.Yteafbfhojhpbgaa
open Go.ChangeShapes Go.WideShapes Go.ChangeAt Go.RowKit Gs
set_option linter.unusedVariables false

set_option maxRecDepth 100000 in
set_option maxHeartbeats 8000000 in
theorem read_leaf (xs : List Int) (hx : ∀ x ∈ xs, 0 ≤ x ∧ x < 256) (o : Nat) (b : List Int) (hb : xs.drop o = b) (k cc : Nat) (t : Int) (h0 : hdS b = (k, cc, 0)) (hk : 2 ≤ k) (ht : b[0]?.getD 0 = t) (htag : isTag t = true) (h48 : t ≠ 48) (h8 : k + cc ≤ 8192) (hkm : k + cc ≤ b.length)
    (d : Nat) (hd : d ≤ 8) (A : Option Addr) (m c : Nat) (hm : xs.length = m) (h9 : m ≤ 1000000) (hmc : m ≤ c) (hc : c ≤ maxLen) (ho : o ≤ m) (w : World) (hs : SI w w.heap.size .u8 A xs) :
    Calls Try.prog 49 #[.slice A m c, .int .i64 o, .int .i64 d] w fun e' w' => ReadRes (if okB t ((b.drop k).take cc) = true then .ok (.mk t ((b.drop k).take cc) []) (k + cc) else .bad 71) o w.heap.size e' w' ∧ Below w.heap.size w w' := by
  have hlen : b.length = m - o := by rw [← hb, List.length_drop, hm]
  obtain ⟨ad, rfl, had⟩ : ∃ ad, A = some ad ∧ ad.block < w.heap.size := by
    obtain ⟨ad, e, h, c⟩ := hs o (by omega)
    exact ⟨ad, e, h⟩
  have PH := Lib.hid (fun W (h : SI W W.heap.size .u8 (some ad) xs) => head_any xs hx o b hb (some ad) m c hm h9 ho W h)
  rw [hv_ok h0, ht] at PH
  have hct : (xs.drop (o + k)).take cc = (b.drop k).take cc := by rw [← hb, List.drop_drop]
  have hcl : ((b.drop k).take cc).length = cc := by rw [List.length_take, List.length_drop]; omega
  have hcb : ∀ x ∈ (b.drop k).take cc, 0 ≤ x ∧ x < 256 := fun x h => hx x (by rw [← hb] at h; exact List.mem_of_mem_drop (List.mem_of_mem_drop (List.mem_of_mem_take h)))
  have HP := Lib.hid (fun (W : World) (h : SI W W.heap.size .u8 (some ad) xs) => (by have := si_part h (o + k) cc (by omega); rw [hct] at this; exact this : SI W W.heap.size .u8 (some (ad.add (o + k))) ((b.drop k).take cc)))
  have HS := Lib.hid hs
  obtain ⟨s, hss⟩ : ∃ s, o + k = s := ⟨_, rfl⟩
  rw [hss] at PH HP
  have PF := Lib.hid (fun A1 c1 W (h : SI W W.heap.size .u8 A1 ((b.drop k).take cc)) => form_leaf7 t htag h48 A1 cc c1 _ hcl (by omega) hcb W h)
  have HC := Lib.hid hcl
  have HIt := Lib.hid (fun (W : World) (B0 : Nat) (A5 : Option Addr) (c5 : Nat) (OB : OwnB W B0 (.slice A5 cc c5) ((b.drop k).take cc)) => (show ItR W (fun g => B0 ≤ g ∧ g < W.heap.size) (.mk t ((b.drop k).take cc) []) (.slice A5 ((b.drop k).take cc).length c5) (.slice none 0 0) from
    (itR_fresh (x := .mk t ((b.drop k).take cc) []) (v := .slice none 0 0) (C := B0) (by rw [hcl]; exact OB) (OwnIt.nil W B0 B0) (fun g e => by cases e) (Nat.le_refl _)).more (fun g hg => ⟨hg.1, hg.2.1⟩)))
  have hcc : cc ≤ 8192 := by omega
  have hcc0 : (0 : Int) ≤ (cc : Int) := by omega
  obtain ⟨n, hn⟩ : ∃ n, s + cc = n := ⟨_, rfl⟩
  have hw3 : IntKind.i64.wrap ((s : Int) + (cc : Int)) = (n : Int) := by rw [show (s : Int) + (cc : Int) = (n : Int) by omega]; exact IntWalk.i64_in _ (by omega)
  have HN := Lib.hid (show o + (k + cc) = n by omega)
  have q1 : decide ((8192 : Int) < (s : Int) - (o : Int) + (cc : Int)) = false := decide_eq_false (by omega)
  have q2 : decide ((m : Int) - (s : Int) < (cc : Int)) = false := decide_eq_false (by omega)
  have q48 : (t == 48) = false := by simpa using h48
  have q48' : (t != 48) = true := by simpa using h48
  have q48'' := decide_eq_false h48
  have g1 : (s : Int) ≤ (n : Int) := by omega
  have g1' : s ≤ n := by omega
  have g2' : n ≤ c := by omega
  have g2 : (n : Int) ≤ (c : Int) := by omega
  have hsb : (s : Int) ≤ 1000000 := by omega
  have hms : (s : Int) ≤ (m : Int) := by omega
  rw [show (ReadRes (if okB t ((b.drop k).take cc) = true then .ok (.mk t ((b.drop k).take cc) []) (k + cc) else .bad 71) o w.heap.size) = (ReadRes (if okB t ((b.drop k).take cc) = true then .ok (.mk t ((b.drop k).take cc) []) (k + cc) else .bad 71) o w.heap.size) from rfl]
  generalize (b.drop k).take cc = ct at *
  have D0 := Lib.hid ((Below.refl w.heap.size w).alloc (Nat.le_refl _) (.cells #[.int .i64 0, .slice none 0 0, .slice none 0 0] 25))
  have K0 := Lib.hid (Blk.new w 25 #[.int .i64 0, .slice none 0 0, .slice none 0 0])
  clear hs hx hb hlen hm h0 hk ht htag h48 h8 hkm hct hcl hcb hss hc
  generalize okB t ct = ok at *
  go_enter Try.func49, Try.ntmps49
  go_wp2_with fail
  refine (PH.out _ (HS.out.on D0.out)).mono ?_; rintro _ w2 ⟨rfl, bb⟩
  have B2 := Lib.hid (below_on D0.out bb)
  have K2 := Lib.hid (K0.out.below bb K0.out.lt)
  clear bb
  have hc2 : ct.length = n - s := by have := HC.out; omega
  have b3 := (((Below.refl w2.heap.size w2).alloc (Nat.le_refl _) (.cells #[.int .i64 t, .int .i64 cc, .int .i64 s, .int .i64 0] 84)).alloc (by simp) (.cells #[.int .i64 t, .slice none 0 0, .slice none 0 0] 25)).alloc (by simp; omega) (.cells #[] 5)
  have B3 := Lib.hid (below_on B2.out b3)
  have K3 := Lib.hid (K2.out.below b3 K2.out.lt)
  have OL := Lib.hid (own_litB ((w2.alloc (.cells #[.int .i64 t, .int .i64 cc, .int .i64 s, .int .i64 0] 84)).alloc (.cells #[.int .i64 t, .slice none 0 0, .slice none 0 0] 25)) [] (g := w2.heap.size + 2) (Nat.le_refl _) (by simp) (by simp))
  have X3 := Lib.hid ((Blk.new_at (w2.alloc (.cells #[.int .i64 t, .int .i64 cc, .int .i64 s, .int .i64 0] 84)) 25 #[.int .i64 t, .slice none 0 0, .slice none 0 0] (g := w2.heap.size + 1) (by simp)).alloc (.cells #[] 5))
  have hsz : (((w2.alloc (.cells #[.int .i64 t, .int .i64 cc, .int .i64 s, .int .i64 0] 84)).alloc (.cells #[.int .i64 t, .slice none 0 0, .slice none 0 0] 25)).alloc (.cells #[] 5)).heap.size = w2.heap.size + 3 := by simp
  have hne1 : (some (w2.heap.size + 1) : Option Nat) ≠ some (w2.heap.size + 2) := fun e => by have e2 := Option.some.inj e; omega
  have hne2 : (some w.heap.size : Option Nat) ≠ some (w2.heap.size + 2) := fun e => by have e2 := Option.some.inj e; have := K2.out.lt; omega
  have hL1 : ([] : List Int).length + (n - s) ≤ 1099511627776 := by simp; omega
  have hL2 : w2.heap.size + 2 ≤ (((w2.alloc (.cells #[.int .i64 t, .int .i64 cc, .int .i64 s, .int .i64 0] 84)).alloc (.cells #[.int .i64 t, .slice none 0 0, .slice none 0 0] 25)).alloc (.cells #[] 5)).heap.size := by omega
  have FK := Lib.hid (fun w7 (g7 : (((w2.alloc (.cells #[.int .i64 t, .int .i64 cc, .int .i64 s, .int .i64 0] 84)).alloc (.cells #[.int .i64 t, .slice none 0 0, .slice none 0 0] 25)).alloc (.cells #[] 5)).grownBy w7 (some (w2.heap.size + 2))) => X3.out.grown g7 hne1)
  have FR := Lib.hid (fun w7 (g7 : (((w2.alloc (.cells #[.int .i64 t, .int .i64 cc, .int .i64 s, .int .i64 0] 84)).alloc (.cells #[.int .i64 t, .slice none 0 0, .slice none 0 0] 25)).alloc (.cells #[] 5)).grownBy w7 (some (w2.heap.size + 2))) => K3.out.grown g7 hne2)
  have FB := Lib.hid (fun w7 (b7 : Below (w2.heap.size + 2) (((w2.alloc (.cells #[.int .i64 t, .int .i64 cc, .int .i64 s, .int .i64 0] 84)).alloc (.cells #[.int .i64 t, .slice none 0 0, .slice none 0 0] 25)).alloc (.cells #[] 5)) w7) => B3.out.trans (b7.mono (by have := B2.out.size; omega)))
  have S1 := Lib.hid (HP.out _ (HS.out.on B3.out))
  have S2 := Lib.hid (fun (h : c = s) => (fun j hj => by have := HC.out; omega : SI (((w2.alloc (.cells #[.int .i64 t, .int .i64 cc, .int .i64 s, .int .i64 0] 84)).alloc (.cells #[.int .i64 t, .slice none 0 0, .slice none 0 0] 25)).alloc (.cells #[] 5)) (((w2.alloc (.cells #[.int .i64 t, .int .i64 cc, .int .i64 s, .int .i64 0] 84)).alloc (.cells #[.int .i64 t, .slice none 0 0, .slice none 0 0] 25)).alloc (.cells #[] 5)).heap.size .u8 (some ad) ct))
  clear b3
  by_cases hcs : c = s
  · have S3 := Lib.hid (S2.out hcs)
    have hcs' := hcs.symm
    clear hcs S2
    subst hcs'
    have hc0 : ct.length = 0 := by omega
    have hL3 : ([] : List Int).length + 0 ≤ 1099511627776 := by simp
    go_wp2_with (at_builtin; first | (refine wpList_append_b (by rfl) _ _ (by rfl) (w2.heap.size + 2) _ [] (by rfl) OL.out _ _ (n - s) _ ct hc2 (by rfl) S3.out hL1 hL2 ?_; intro v7 w7 o7 b7 g7 n7; have K7 := Lib.hid (FR.out w7 g7); have X7 := Lib.hid (FK.out w7 g7); have B7 := Lib.hid (FB.out w7 b7); rw [List.nil_append] at o7; obtain ⟨A7, c7, e7, hc71, hc72, _, _⟩ := own_sliceB o7; rw [HC.out] at e7; subst e7; have O7 := Lib.hid o7; have C7 := Lib.hid (And.intro hc71 hc72); clear o7 b7 g7 n7 hc71 hc72; have y70 := X7.out.cell 0; have y71 := X7.out.cell 1; have y72 := X7.out.cell 2; have f70 := X7.out.free 0; have f71 := X7.out.free 1; have f72 := X7.out.free 2) | (refine wpList_append_b (by rfl) _ _ (by rfl) (w2.heap.size + 2) _ [] (by rfl) OL.out _ _ 0 _ ct hc0 (by rfl) S3.out hL3 hL2 ?_; intro v7 w7 o7 b7 g7 n7; have K7 := Lib.hid (FR.out w7 g7); have X7 := Lib.hid (FK.out w7 g7); have B7 := Lib.hid (FB.out w7 b7); rw [List.nil_append] at o7; obtain ⟨A7, c7, e7, hc71, hc72, _, _⟩ := own_sliceB o7; rw [HC.out] at e7; subst e7; have O7 := Lib.hid o7; have C7 := Lib.hid (And.intro hc71 hc72); clear o7 b7 g7 n7 hc71 hc72; have y70 := X7.out.cell 0; have y71 := X7.out.cell 1; have y72 := X7.out.cell 2; have f70 := X7.out.free 0; have f71 := X7.out.free 1; have f72 := X7.out.free 2) | (trace_state; sorry))
    have O8 := Lib.hid (own_far O7.out (p := ⟨w2.heap.size + 1, 1, none⟩) (show w2.heap.size + 1 < w2.heap.size + 2 by omega) (.slice A7 cc c7))
    have X8 := Lib.hid (show Blk (w7.setCell ⟨w2.heap.size + 1, 1, none⟩ (.slice A7 cc c7)) (w2.heap.size + 1) 25 #[.int .i64 t, .slice A7 cc c7, .slice none 0 0] from X7.out.set 1 _)
    have K8 := Lib.hid (K7.out.other (a := ⟨w2.heap.size + 1, 1, none⟩) (by show w.heap.size ≠ w2.heap.size + 1; have := B2.out.size; have := K2.out.lt; omega) (.slice A7 cc c7))
    have B8 := Lib.hid (B7.out.setCell (p := ⟨w2.heap.size + 1, 1, none⟩) (show w.heap.size ≤ w2.heap.size + 1 by have := B2.out.size; omega) (.slice A7 cc c7))
    have S8 : SI (w7.setCell ⟨w2.heap.size + 1, 1, none⟩ (.slice A7 cc c7)) (w7.setCell ⟨w2.heap.size + 1, 1, none⟩ (.slice A7 cc c7)).heap.size .u8 A7 ct := by
      obtain ⟨A', c', e', _, _, hsi, _⟩ := own_sliceB O8.out
      cases e'
      exact hsi
    refine (PF.out A7 c7 _ S8).mono ?_; rintro _ w9 ⟨rfl, b9⟩
    have B9 := Lib.hid (below_on B8.out b9)
    have O9 := Lib.hid (own_below O8.out b9)
    have X9 := Lib.hid (X8.out.below b9 X8.out.lt)
    have K9 := Lib.hid (K8.out.below b9 K8.out.lt)
    clear b9 S8 y70 y71 y72 f70 f71 f72
    have y0 := X9.out.cell 0
    have y1 := X9.out.cell 1
    have y2 := X9.out.cell 2
    have j0 := K9.out.cell 0
    have j1 := K9.out.cell 1
    have j2 := K9.out.cell 2
    have f0 := K9.out.free 0
    have f1 := K9.out.free 1
    have f2 := K9.out.free 2
    cases ok with
    | true =>
      have hlt : w.heap.size < w2.heap.size + 2 := by have := B2.out.size; omega
      have HI := Lib.hid (HIt.out _ _ _ _ (own_far (own_far (own_far O9.out (p := ⟨w.heap.size, 0, none⟩) hlt (.int .i64 t)) (p := ⟨w.heap.size, 1, none⟩) hlt (.slice A7 cc c7)) (p := ⟨w.heap.size, 2, none⟩) hlt (.slice none 0 0)))
      go_wp2_with fail
      have hk2 := ((K9.out.set 0 (.int .i64 t)).set 1 (.slice A7 cc c7)).set 2 (.slice none 0 0)
      have x0 := hk2.cell 0
      have x1 := hk2.cell 1
      have x2 := hk2.cell 2
      refine bodyPost_ret (v := .tuple #[.agg #[.int .i64 t, .slice A7 cc c7, .slice none 0 0], .int .i64 n, .int .i64 0]) (by simp [results, Try.results49, go_sem, x0, x1, x2]) rfl ⟨⟨A7, c7, none, 0, ?_, HI.out.more (fun g hg => ⟨by omega, hg.2⟩)⟩, ?_⟩
      · show _ = Ending.returned (.tuple #[.agg #[.int .i64 t, .slice A7 ct.length c7, .slice none 0 0], .int .i64 ((o + (k + cc) : Nat) : Int), .int .i64 0])
        rw [HC.out, HN.out]
      · exact below_setR (below_setR (below_setR B9.out (Nat.le_refl _) _) (Nat.le_refl _) _) (Nat.le_refl _) _
    | false =>
      go_wp2_with fail
      have hk2 := ((K9.out.set 0 (.int .i64 0)).set 1 (.slice none 0 0)).set 2 (.slice none 0 0)
      have x0 := hk2.cell 0
      have x1 := hk2.cell 1
      have x2 := hk2.cell 2
      refine bodyPost_ret (v := .tuple #[.agg #[.int .i64 0, .slice none 0 0, .slice none 0 0], .int .i64 0, .int .i64 71]) (by simp [results, Try.results49, go_sem, x0, x1, x2]) rfl ⟨rfl, ?_⟩
      exact below_setR (below_setR (below_setR B9.out (Nat.le_refl _) _) (Nat.le_refl _) _) (Nat.le_refl _) _
  · skip
    go_wp2_with (at_builtin; refine wpList_append_b (by rfl) _ _ (by rfl) (w2.heap.size + 2) _ [] (by rfl) OL.out _ _ (n - s) _ ct hc2 (by rfl) S1.out hL1 hL2 ?_; intro v7 w7 o7 b7 g7 n7; have K7 := Lib.hid (FR.out w7 g7); have X7 := Lib.hid (FK.out w7 g7); have B7 := Lib.hid (FB.out w7 b7); rw [List.nil_append] at o7; obtain ⟨A7, c7, e7, hc71, hc72, _, _⟩ := own_sliceB o7; rw [HC.out] at e7; subst e7; have O7 := Lib.hid o7; have C7 := Lib.hid (And.intro hc71 hc72); clear o7 b7 g7 n7 hc71 hc72; have y70 := X7.out.cell 0; have y71 := X7.out.cell 1; have y72 := X7.out.cell 2; have f70 := X7.out.free 0; have f71 := X7.out.free 1; have f72 := X7.out.free 2)
    have O8 := Lib.hid (own_far O7.out (p := ⟨w2.heap.size + 1, 1, none⟩) (show w2.heap.size + 1 < w2.heap.size + 2 by omega) (.slice A7 cc c7))
    have X8 := Lib.hid (show Blk (w7.setCell ⟨w2.heap.size + 1, 1, none⟩ (.slice A7 cc c7)) (w2.heap.size + 1) 25 #[.int .i64 t, .slice A7 cc c7, .slice none 0 0] from X7.out.set 1 _)
    have K8 := Lib.hid (K7.out.other (a := ⟨w2.heap.size + 1, 1, none⟩) (by show w.heap.size ≠ w2.heap.size + 1; have := B2.out.size; have := K2.out.lt; omega) (.slice A7 cc c7))
    have B8 := Lib.hid (B7.out.setCell (p := ⟨w2.heap.size + 1, 1, none⟩) (show w.heap.size ≤ w2.heap.size + 1 by have := B2.out.size; omega) (.slice A7 cc c7))
    have S8 : SI (w7.setCell ⟨w2.heap.size + 1, 1, none⟩ (.slice A7 cc c7)) (w7.setCell ⟨w2.heap.size + 1, 1, none⟩ (.slice A7 cc c7)).heap.size .u8 A7 ct := by
      obtain ⟨A', c', e', _, _, hsi, _⟩ := own_sliceB O8.out
      cases e'
      exact hsi
    refine (PF.out A7 c7 _ S8).mono ?_; rintro _ w9 ⟨rfl, b9⟩
    have B9 := Lib.hid (below_on B8.out b9)
    have O9 := Lib.hid (own_below O8.out b9)
    have X9 := Lib.hid (X8.out.below b9 X8.out.lt)
    have K9 := Lib.hid (K8.out.below b9 K8.out.lt)
    clear b9 S8 y70 y71 y72 f70 f71 f72
    have y0 := X9.out.cell 0
    have y1 := X9.out.cell 1
    have y2 := X9.out.cell 2
    have j0 := K9.out.cell 0
    have j1 := K9.out.cell 1
    have j2 := K9.out.cell 2
    have f0 := K9.out.free 0
    have f1 := K9.out.free 1
    have f2 := K9.out.free 2
    cases ok with
    | true =>
      have hlt : w.heap.size < w2.heap.size + 2 := by have := B2.out.size; omega
      have HI := Lib.hid (HIt.out _ _ _ _ (own_far (own_far (own_far O9.out (p := ⟨w.heap.size, 0, none⟩) hlt (.int .i64 t)) (p := ⟨w.heap.size, 1, none⟩) hlt (.slice A7 cc c7)) (p := ⟨w.heap.size, 2, none⟩) hlt (.slice none 0 0)))
      go_wp2_with fail
      have hk2 := ((K9.out.set 0 (.int .i64 t)).set 1 (.slice A7 cc c7)).set 2 (.slice none 0 0)
      have x0 := hk2.cell 0
      have x1 := hk2.cell 1
      have x2 := hk2.cell 2
      refine bodyPost_ret (v := .tuple #[.agg #[.int .i64 t, .slice A7 cc c7, .slice none 0 0], .int .i64 n, .int .i64 0]) (by simp [results, Try.results49, go_sem, x0, x1, x2]) rfl ⟨⟨A7, c7, none, 0, ?_, HI.out.more (fun g hg => ⟨by omega, hg.2⟩)⟩, ?_⟩
      · show _ = Ending.returned (.tuple #[.agg #[.int .i64 t, .slice A7 ct.length c7, .slice none 0 0], .int .i64 ((o + (k + cc) : Nat) : Int), .int .i64 0])
        rw [HC.out, HN.out]
      · exact below_setR (below_setR (below_setR B9.out (Nat.le_refl _) _) (Nat.le_refl _) _) (Nat.le_refl _) _
    | false =>
      go_wp2_with fail
      have hk2 := ((K9.out.set 0 (.int .i64 0)).set 1 (.slice none 0 0)).set 2 (.slice none 0 0)
      have x0 := hk2.cell 0
      have x1 := hk2.cell 1
      have x2 := hk2.cell 2
      refine bodyPost_ret (v := .tuple #[.agg #[.int .i64 0, .slice none 0 0, .slice none 0 0], .int .i64 0, .int .i64 71]) (by simp [results, Try.results49, go_sem, x0, x1, x2]) rfl ⟨rfl, ?_⟩
      exact below_setR (below_setR (below_setR B9.out (Nat.le_refl _) _) (Nat.le_refl _) _) (Nat.le_refl _) _
end Go.Proofs.Yteafbfhojhpbgaa

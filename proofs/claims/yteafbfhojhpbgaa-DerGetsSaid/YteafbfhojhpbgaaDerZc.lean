/- Bytes read as a sequence: the document's own. -/
import Derived.Test.YteafbfhojhpbgaaDerZb
namespace Go.Proofs.Yteafbfhojhpbgaa
open Go.ChangeShapes Go.WideShapes Go.ChangeAt Go.RowKit Gs
set_option linter.unusedVariables false

/-- What is read of a sequence whose bytes are ct. -/
def SeqR (d : Nat) (ct : List Int) (n : Nat) : GR := match rawL ct with
  | some l => if mayI d (.mk 48 [] l) = true then .ok (.mk 48 [] l) n else .bad 71
  | none => .bad 71
theorem mayI_seq (q : Nat) (l : List It) : mayI (q + 1) (.mk 48 [] l) = l.all (mayI q) := by
  show (okB 48 [] && (if (48 : Int) = 48 then l.all (mayI q) else _)) = _
  rw [if_pos rfl, show okB 48 [] = true from by decide, Bool.true_and]
theorem seq_end {q : Nat} {ct : List Int} {acc : List It} {n : Nat} (h : rawL ct = (rawL []).map (acc ++ ·)) (ha : acc.all (mayI q) = true) : SeqR (q + 1) ct n = .ok (.mk 48 [] acc) n := by
  unfold SeqR
  rw [h, rawL_nil]
  simp only [Option.map_some, List.append_nil]
  rw [mayI_seq, if_pos ha]
theorem seq_stop {q : Nat} {ct rest : List Int} {acc : List It} {n : Nat} (h : rawL ct = (rawL rest).map (acc ++ ·)) (hne : rest ≠ []) (hb : ∀ y len, rdG q rest ≠ .ok y len) : SeqR (q + 1) ct n = .bad 71 := by
  unfold SeqR
  rw [h]
  cases hr : rawG rest with
  | bad e => rw [rawL_bad hne hr]; rfl
  | ok y len =>
    rw [rawL_ok hne hr]
    have hm : mayI q y = false := by
      cases hm : mayI q y
      · rfl
      · exact absurd (show rdG q rest = .ok y len by unfold rdG; rw [hr]; simp only [hm, if_true]) (hb y len)
    cases hl : rawL (rest.drop len) with
    | none => rfl
    | some l =>
      simp only [Option.map_some]
      rw [mayI_seq, if_neg]
      rw [List.all_append, List.all_cons, hm]
      simp
theorem seq_step {ct rest : List Int} {acc : List It} {y : It} {len : Nat} (h : rawL ct = (rawL rest).map (acc ++ ·)) (hne : rest ≠ []) (hr : rawG rest = .ok y len) : rawL ct = (rawL (rest.drop len)).map ((acc ++ [y]) ++ ·) := by
  rw [h, rawL_ok hne hr, Option.map_map]
  congr 1
  funext l
  simp
theorem rdG_ok {d : Nat} {b : List Int} {x : It} {n : Nat} (h : rdG d b = .ok x n) : rawG b = .ok x n ∧ mayI d x = true := by
  unfold rdG at h
  cases hr : rawG b with
  | bad e => rw [hr] at h; cases h
  | ok y m =>
    rw [hr] at h
    simp only at h
    by_cases hm : mayI d y = true
    · rw [if_pos hm] at h; cases h; exact ⟨rfl, hm⟩
    · rw [if_neg hm] at h; cases h
theorem rdG_err {d : Nat} {b : List Int} {e : Int} (h : rdG d b = .bad e) : e = 70 ∨ e = 71 := by
  unfold rdG at h
  cases hr : rawG b with
  | bad e' => rw [hr] at h; cases h; exact rawG_err hr
  | ok y m =>
    rw [hr] at h
    simp only at h
    by_cases hm : mayI d y = true
    · rw [if_pos hm] at h; cases h
    · rw [if_neg hm] at h; cases h; exact .inr rfl

theorem own_nilB7 (w : World) (B : Nat) : OwnB w B (.slice none 0 0) [] := World.ownsRow_nil _ _ _ _
/-- The document's read, so deep at most. -/
def ReadOf (d : Nat) : Prop := ∀ (xs : List Int) (hx : ∀ x ∈ xs, 0 ≤ x ∧ x < 256) (o : Nat) (A : Option Addr) (m c : Nat) (hm : xs.length = m) (h9 : m ≤ 1000000) (hmc : m ≤ c) (hc : c ≤ maxLen) (ho : o ≤ m) (w : World) (hs : SI w w.heap.size .u8 A xs),
    Calls Try.prog 49 #[.slice A m c, .int .i64 o, .int .i64 d] w fun e' w' => ReadRes (rdG d (xs.drop o)) o w.heap.size e' w' ∧ Below w.heap.size w w'

set_option maxRecDepth 100000 in
set_option maxHeartbeats 8000000 in
theorem read_seq (xs : List Int) (hx : ∀ x ∈ xs, 0 ≤ x ∧ x < 256) (o : Nat) (b : List Int) (hb : xs.drop o = b) (k cc : Nat) (h0 : hdS b = (k, cc, 0)) (hk : 2 ≤ k) (ht : b[0]?.getD 0 = 48) (h8 : k + cc ≤ 8192) (hkm : k + cc ≤ b.length)
    (q : Nat) (hq : q ≤ 8) (IH : q ≠ 0 → ReadOf q) (A : Option Addr) (m c : Nat) (hm : xs.length = m) (h9 : m ≤ 1000000) (hmc : m ≤ c) (hc : c ≤ maxLen) (ho : o ≤ m) (w : World) (hs : SI w w.heap.size .u8 A xs) :
    Calls Try.prog 49 #[.slice A m c, .int .i64 o, .int .i64 ((q + 1 : Nat) : Int)] w fun e' w' => ReadRes (SeqR (q + 1) ((b.drop k).take cc) (k + cc)) o w.heap.size e' w' ∧ Below w.heap.size w w' := by
  have hlen : b.length = m - o := by rw [← hb, List.length_drop, hm]
  obtain ⟨ad, rfl, had⟩ : ∃ ad, A = some ad ∧ ad.block < w.heap.size := by
    obtain ⟨ad, e, h, c⟩ := hs o (by omega)
    exact ⟨ad, e, h⟩
  have PH := Lib.hid (fun W (h : SI W W.heap.size .u8 (some ad) xs) => head_any xs hx o b hb (some ad) m c hm h9 ho W h)
  rw [hv_ok h0, ht] at PH
  have HS := Lib.hid hs
  obtain ⟨s, hss⟩ : ∃ s, o + k = s := ⟨_, rfl⟩
  rw [hss] at PH
  obtain ⟨n, hn⟩ : ∃ n, s + cc = n := ⟨_, rfl⟩
  have hct : (xs.take n).drop s = (b.drop k).take cc := by
    rw [← hb, List.drop_drop, hss, List.drop_take, show n - s = cc by omega]
  have hnm : n ≤ m := by omega
  have htl : (xs.take n).length = n := by rw [List.length_take, hm]; omega
  have PR := Lib.hid (fun (h : q ≠ 0) (i : Nat) (hi : i ≤ n) (W : World) (hS : SI W W.heap.size .u8 (some ad) xs) => IH h (xs.take n) (fun x hx' => hx x (List.mem_of_mem_take hx')) i (some ad) n c htl (by omega) (by omega) hc hi W (hS.take_ n))
  have HTL := Lib.hid htl
  have hw3 : IntKind.i64.wrap ((s : Int) + (cc : Int)) = (n : Int) := by rw [show (s : Int) + (cc : Int) = (n : Int) by omega]; exact IntWalk.i64_in _ (by omega)
  have HN := Lib.hid (show o + (k + cc) = n by omega)
  have q1 : decide ((8192 : Int) < (s : Int) - (o : Int) + (cc : Int)) = false := decide_eq_false (by omega)
  have q2 : decide ((m : Int) - (s : Int) < (cc : Int)) = false := decide_eq_false (by omega)
  have g2' : n ≤ c := by omega
  have g2 : (n : Int) ≤ (c : Int) := by omega
  have hsn : s ≤ n := by omega
  have hsb : (s : Int) ≤ 1000000 := by omega
  have hn6 : n ≤ 1000000 := by omega
  have hms : (s : Int) ≤ (m : Int) := by omega
  have hcc0 : (0 : Int) ≤ (cc : Int) := by omega
  have hqw : IntKind.i64.wrap (((q + 1 : Nat) : Int) - 1) = (q : Int) := by rw [show ((q + 1 : Nat) : Int) - 1 = (q : Int) by omega]; exact IntWalk.i64_in _ (by omega)
  have hqw2 : IntKind.i64.wrap ((q : Int) + 1 - 1) = (q : Int) := by rw [show (q : Int) + 1 - 1 = (q : Int) by omega]; exact IntWalk.i64_in _ (by omega)
  have HR0 := Lib.hid (show rawL ((b.drop k).take cc) = (rawL ((xs.take n).drop s)).map (([] : List It) ++ ·) by rw [hct]; simp)
  generalize (b.drop k).take cc = ct at *
  have D0 := Lib.hid ((Below.refl w.heap.size w).alloc (Nat.le_refl _) (.cells #[.int .i64 0, .slice none 0 0, .slice none 0 0] 25))
  have K0 := Lib.hid (Blk.new w 25 #[.int .i64 0, .slice none 0 0, .slice none 0 0])
  clear hs hx hb hlen hm h0 hk ht h8 hkm hct hss hc IH htl had
  go_enter Try.func49, Try.ntmps49
  go_wp2_with fail
  refine (PH.out _ (HS.out.on D0.out)).mono ?_; rintro _ w2 ⟨rfl, bb⟩
  have B2 := Lib.hid (below_on D0.out bb)
  have K2 := Lib.hid (K0.out.below bb K0.out.lt)
  clear bb
  have b3 := ((Below.refl w2.heap.size w2).alloc (Nat.le_refl _) (.cells #[.int .i64 48, .int .i64 cc, .int .i64 s, .int .i64 0] 84)).alloc (by simp) (.cells #[.int .i64 48, .slice none 0 0, .slice none 0 0] 25)
  have B3 := Lib.hid (below_on B2.out b3)
  have K3 := Lib.hid (K2.out.below b3 K2.out.lt)
  have X3 := Lib.hid (Blk.new_at (w2.alloc (.cells #[.int .i64 48, .int .i64 cc, .int .i64 s, .int .i64 0] 84)) 25 #[.int .i64 48, .slice none 0 0, .slice none 0 0] (g := w2.heap.size + 1) (by simp))
  have Z3 := Lib.hid (show w2.heap.size + 2 ≤ ((w2.alloc (.cells #[.int .i64 48, .int .i64 cc, .int .i64 s, .int .i64 0] 84)).alloc (.cells #[.int .i64 48, .slice none 0 0, .slice none 0 0] 25)).heap.size by simp)
  have hw2 := B2.out.size
  have hk2 := K2.out.lt
  clear b3
  go_wp2_with fail
  refine wp_named (fun W3 => Below w.heap.size w W3 ∧ Blk W3 w.heap.size 25 #[.int .i64 0, .slice none 0 0, .slice none 0 0] ∧ Blk W3 (w2.heap.size + 1) 25 #[.int .i64 48, .slice none 0 0, .slice none 0 0] ∧ w2.heap.size + 2 ≤ W3.heap.size) ⟨B3.out, K3.out, X3.out, Z3.out⟩ ?_
  clear B3 K3 X3 Z3
  rintro W3 ⟨b3, k3, x3, z3⟩
  have B3 := Lib.hid b3
  have K3 := Lib.hid k3
  have X3 := Lib.hid x3
  clear b3 k3 x3 B2 K2 D0 K0 PH
  go_loopw [12] (fun vi wr => ∃ (i : Nat) (acc : List It) (vl : Value), vi = .int .i64 (i : Int) ∧ s ≤ i ∧ i ≤ n ∧ acc.length ≤ i ∧ Blk wr w.heap.size 25 #[.int .i64 0, .slice none 0 0, .slice none 0 0] ∧ Blk wr (w2.heap.size + 1) 25 #[.int .i64 48, .slice none 0 0, vl] ∧ OwnIt wr (w2.heap.size + 2) (w2.heap.size + 2) vl acc ∧ Below w.heap.size w wr ∧ w2.heap.size + 2 ≤ wr.heap.size ∧ Hid (rawL ct = (rawL ((xs.take n).drop i)).map (acc ++ ·)) ∧ Hid (acc.all (mayI q) = true)) (fun vi _ => n - (intOf vi).toNat)
  case atStart => exact ⟨s, [], _, rfl, Nat.le_refl _, hsn, Nat.zero_le _, K3.out, X3.out, OwnIt.nil _ _ _, B3.out, z3, HR0, Lib.hid rfl⟩
  case round =>
    obtain ⟨i, acc, vl, rfl, hsi, hin, hacc, kr, xr, or_, br, zr, HRW, HAL⟩ := hrel
    have KR := Lib.hid kr
    have XR := Lib.hid xr
    have OR := Lib.hid or_
    have BR := Lib.hid br
    clear or_ br B3 K3 X3 HR0
    have j0 := kr.cell 0
    have j1 := kr.cell 1
    have j2 := kr.cell 2
    have f0 := kr.free 0
    have f1 := kr.free 1
    have f2 := kr.free 2
    have y0 := xr.cell 0
    have y1 := xr.cell 1
    have y2 := xr.cell 2
    clear kr xr
    by_cases hlt : i < n
    · have hne : (xs.take n).drop i ≠ [] := by rw [ne_eq, List.drop_eq_nil_iff, HTL.out]; omega
      have HNE := Lib.hid hne
      clear hne
      by_cases hq0 : q = 0
      · have HX := Lib.hid (show SeqR (q + 1) ct (k + cc) = .bad 71 from seq_stop HRW.out HNE.out (fun y len h => by subst hq0; have := (rdG_ok h).2; cases this))
        have d1 : decide (((q + 1 : Nat) : Int) ≤ 1) = true := decide_eq_true (by omega)
        have d2 : decide ((q : Int) + 1 ≤ 1) = true := decide_eq_true (by omega)
        clear hq0
        go_wp2_with fail
        have hk2 := ((KR.out.set 0 (.int .i64 0)).set 1 (.slice none 0 0)).set 2 (.slice none 0 0)
        have x0 := hk2.cell 0
        have x1 := hk2.cell 1
        have x2 := hk2.cell 2
        refine bodyPost_ret (v := .tuple #[.agg #[.int .i64 0, .slice none 0 0, .slice none 0 0], .int .i64 0, .int .i64 71]) (by simp [results, Try.results49, go_sem, x0, x1, x2]) rfl ⟨by rw [HX.out]; rfl, ?_⟩
        exact below_setR (below_setR (below_setR BR.out (Nat.le_refl _) _) (Nat.le_refl _) _) (Nat.le_refl _) _
      · have d1 : decide (((q + 1 : Nat) : Int) ≤ 1) = false := decide_eq_false (by omega)
        have d2 : decide ((q : Int) + 1 ≤ 1) = false := decide_eq_false (by omega)
        have PI := Lib.hid (PR.out hq0 i (by omega) wr (HS.out.on BR.out))
        clear hq0
        cases hr : rdG q ((xs.take n).drop i) with
        | bad e =>
          rw [hr] at PI
          have HE := Lib.hid (rdG_err hr)
          have he : (e != 0) = true := by have := HE.out; simp; omega
          have he' : (e == 0) = false := beq_eq_false_iff_ne.2 (by have := HE.out; omega)
          have HX := Lib.hid (show SeqR (q + 1) ct (k + cc) = .bad 71 from seq_stop HRW.out HNE.out (fun y len h => by rw [hr] at h; cases h))
          clear hr j0 j1 j2 f0 f1 f2 y0 y1 y2
          go_wp2_with fail
          refine PI.out.mono ?_; rintro _ w4 ⟨h, b4⟩
          obtain rfl : _ = _ := h
          have B4 := Lib.hid (BR.out.trans (b4.mono BR.out.size))
          have B5 := Lib.hid (B4.out.alloc B4.out.size (.cells #[.int .i64 0, .slice none 0 0, .slice none 0 0] 25))
          have K5 := Lib.hid ((KR.out.below b4 KR.out.lt).alloc (.cells #[.int .i64 0, .slice none 0 0, .slice none 0 0] 25))
          clear b4
          have j0 := K5.out.cell 0
          have j1 := K5.out.cell 1
          have j2 := K5.out.cell 2
          have f0 := K5.out.free 0
          have f1 := K5.out.free 1
          have f2 := K5.out.free 2
          go_wp2_with fail
          have hk2 := ((K5.out.set 0 (.int .i64 0)).set 1 (.slice none 0 0)).set 2 (.slice none 0 0)
          have x0 := hk2.cell 0
          have x1 := hk2.cell 1
          have x2 := hk2.cell 2
          refine bodyPost_ret (v := .tuple #[.agg #[.int .i64 0, .slice none 0 0, .slice none 0 0], .int .i64 0, .int .i64 71]) (by simp [results, Try.results49, go_sem, x0, x1, x2]) rfl ⟨by rw [HX.out]; rfl, ?_⟩
          exact below_setR (below_setR (below_setR B5.out (Nat.le_refl _) _) (Nat.le_refl _) _) (Nat.le_refl _) _
        | ok y len =>
          rw [hr] at PI
          obtain ⟨hraw, hmay⟩ := rdG_ok hr
          have hrl := rawG_ok hraw
          have hdl : ((xs.take n).drop i).length = n - i := by rw [List.length_drop, HTL.out]
          have hle : i + len ≤ n := by omega
          have hl2 : 2 ≤ len := hrl.2.2.2.2
          have HRW2 := Lib.hid (seq_step HRW.out HNE.out hraw)
          rw [List.drop_drop] at HRW2
          have HAL2 := Lib.hid (show (acc ++ [y]).all (mayI q) = true by rw [List.all_append, HAL.out]; simp [hmay])
          obtain ⟨i2, hi2⟩ : ∃ i2, i + len = i2 := ⟨_, rfl⟩
          have HI2 := Lib.hid hi2
          rw [hi2] at HRW2
          have PI : Hid (Calls Try.prog 49 #[.slice (some ad) n c, .int .i64 i, .int .i64 q] wr fun e' w' => (∃ A1 c1 A2 c2, e' = .returned (.tuple #[.agg #[.int .i64 y.tag, .slice A1 y.b.length c1, .slice A2 y.l.length c2], .int .i64 (i2 : Int), .int .i64 0]) ∧ ItR w' (fun g => wr.heap.size ≤ g ∧ g < w'.heap.size) y (.slice A1 y.b.length c1) (.slice A2 y.l.length c2)) ∧ Below wr.heap.size wr w') := Lib.hid (PI.out.mono (fun e' w' h => by rw [← hi2]; exact h))
          have hi2n : i2 ≤ n := by omega
          have hii2 : i + 2 ≤ i2 := by omega
          clear hr hraw hmay hrl hdl hle hl2 hi2 j0 j1 j2 f0 f1 f2 y0 y1 y2 PR HRW HAL
          go_wp2_with fail
          refine PI.out.mono ?_; rintro _ w4 ⟨⟨A1, c1, A2, c2, rfl, hit⟩, b4⟩
          have HIt := Lib.hid hit
          have B4 := Lib.hid (BR.out.trans (b4.mono BR.out.size))
          have hz4 := b4.size
          have B5 := Lib.hid (B4.out.alloc B4.out.size (.cells #[.int .i64 y.tag, .slice A1 y.b.length c1, .slice A2 y.l.length c2] 25))
          have b5 := b4.alloc b4.size (.cells #[.int .i64 y.tag, .slice A1 y.b.length c1, .slice A2 y.l.length c2] 25)
          have K5 := Lib.hid (KR.out.below b5 KR.out.lt)
          have X5 := Lib.hid (XR.out.below b5 XR.out.lt)
          have T1 := OR.out.below b5
          have T2 : ItR (w4.alloc (.cells #[.int .i64 y.tag, .slice A1 y.b.length c1, .slice A2 y.l.length c2] 25)) (fun g => w2.heap.size + 2 ≤ g ∧ g < (w4.alloc (.cells #[.int .i64 y.tag, .slice A1 y.b.length c1, .slice A2 y.l.length c2] 25)).heap.size ∧ vl.ownBlock ≠ some g) y (.slice A1 y.b.length c1) (.slice A2 y.l.length c2) :=
            (HIt.out.keep (fun p hp => World.cell?_alloc_lt _ _ p hp.2)).more (fun g hg => ⟨by omega, by have := hg.2; simp; omega, fun e => by have := OR.out.lt g e; omega⟩)
          have T3 : acc.length ≤ 1000000000 := by omega
          have T4 : w2.heap.size + 2 ≤ (w4.alloc (.cells #[.int .i64 y.tag, .slice A1 y.b.length c1, .slice A2 y.l.length c2] 25)).heap.size := by simp; omega
          have HT := Lib.hid (And.intro T1 (And.intro T2 (And.intro T3 T4)))
          clear T1 T2 T3 T4 hit b4 b5
          have y0 := X5.out.cell 0
          have y1 := X5.out.cell 1
          have y2 := X5.out.cell 2
          go_wp2_with (at_builtin; refine wpList_append_it (by rfl) _ _ (by rfl) (w2.heap.size + 2) (w2.heap.size + 2) _ acc y _ _ (by rfl) HT.out.1 HT.out.2.1 (w4.heap.size + 1) 1 (by simp) (by rfl) HT.out.2.2.1 HT.out.2.2.2 ?_; intro v6 w6 o6 b6 f6; obtain ⟨A6, c6, rfl, _, _, _⟩ := o6.slice; rw [List.length_append, List.length_singleton] at o6; have HO6 := Lib.hid o6; have X6 := Lib.hid (X5.out.below b6 (by omega)); have K6 := Lib.hid (K5.out.below b6 (by omega)); have B6 := Lib.hid (B5.out.trans (b6.mono (by omega))); have hz6 := b6.size; clear o6 b6 f6; have z0 := X6.out.cell 0; have z1 := X6.out.cell 1; have z2 := X6.out.cell 2; have g0 := X6.out.free 0; have g1 := X6.out.free 1; have g2 := X6.out.free 2)
          go_roundw
          case rel =>
            refine ⟨i2, acc ++ [y], _, rfl, by omega, hi2n, by simp; omega, K6.out.other (a := ⟨w2.heap.size + 1, 2, none⟩) (by show w.heap.size ≠ w2.heap.size + 1; omega) _, show Blk _ _ _ _ from X6.out.set 2 _, HO6.out.far (p := ⟨w2.heap.size + 1, 2, none⟩) (by show w2.heap.size + 1 < w2.heap.size + 2; omega) (by show w2.heap.size + 1 < w2.heap.size + 2; omega) _, B6.out.setCell (by show w.heap.size ≤ w2.heap.size + 1; omega) _, ?_, HRW2, HAL2⟩
            simp [World.setCell] at hz6 ⊢
            omega
          case measure => simp [intOf]; omega
    · obtain rfl : i = n := by omega
      have HX := Lib.hid (show SeqR (q + 1) ct (k + cc) = .ok (.mk 48 [] acc) (k + cc) from seq_end (by
        have := HRW.out
        rwa [List.drop_of_length_le (by rw [HTL.out]; exact Nat.le_refl _)] at this) HAL.out)
      obtain ⟨Av, cv, rfl, _, _, _⟩ := OR.out.slice
      have hlt2 : w.heap.size < w2.heap.size + 2 := by omega
      have HI := Lib.hid ((itR_fresh (x := .mk 48 [] acc) (v := .slice none 0 0) (C := w2.heap.size + 2) (own_nilB7 _ _) (((OR.out.far (p := ⟨w.heap.size, 0, none⟩) hlt2 hlt2 (.int .i64 48)).far (p := ⟨w.heap.size, 1, none⟩) hlt2 hlt2 (.slice none 0 0)).far (p := ⟨w.heap.size, 2, none⟩) hlt2 hlt2 (.slice Av acc.length cv)) (fun g e => by cases e) (Nat.le_refl _)).more (S' := fun g => w.heap.size ≤ g ∧ g < (((wr.setCell ⟨w.heap.size, 0, none⟩ (.int .i64 48)).setCell ⟨w.heap.size, 1, none⟩ (.slice none 0 0)).setCell ⟨w.heap.size, 2, none⟩ (.slice Av acc.length cv)).heap.size) (fun g hg => ⟨by omega, hg.2.1⟩))
      go_wp2_with fail
      have hk2 := ((KR.out.set 0 (.int .i64 48)).set 1 (.slice none 0 0)).set 2 (.slice Av acc.length cv)
      have x0 := hk2.cell 0
      have x1 := hk2.cell 1
      have x2 := hk2.cell 2
      refine bodyPost_ret (v := .tuple #[.agg #[.int .i64 48, .slice none 0 0, .slice Av acc.length cv], .int .i64 i, .int .i64 0]) (by simp [results, Try.results49, go_sem, x0, x1, x2]) rfl ⟨?_, ?_⟩
      · rw [HX.out]
        refine ⟨none, 0, Av, cv, ?_, HI.out⟩
        show _ = Ending.returned (.tuple #[.agg #[.int .i64 48, .slice none 0 0, .slice Av acc.length cv], .int .i64 ((o + (k + cc) : Nat) : Int), .int .i64 0])
        rw [HN.out]
      · exact below_setR (below_setR (below_setR BR.out (Nat.le_refl _) _) (Nat.le_refl _) _) (Nat.le_refl _) _
end Go.Proofs.Yteafbfhojhpbgaa

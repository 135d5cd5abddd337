/- Bytes read as items: what is none; a sequence. -/
import Derived.Test.YteafbfhojhpbgaaDerR
namespace Go.Proofs.Yteafbfhojhpbgaa
open Go.ChangeShapes Go.WideShapes Go.ChangeAt Go.RowKit Gs
set_option linter.unusedVariables false

set_option maxRecDepth 100000 in
set_option maxHeartbeats 8000000 in
theorem get_bad (b : List Int) (hb : ∀ x ∈ b, 0 ≤ x ∧ x < 256) (hl : b.length ≤ 100000) (k cc : Nat) (e0 e : Int) (h0 : hdS b = (k, cc, e0)) (he : e0 ≠ 0 ∧ e = e0 ∨ e0 = 0 ∧ 8192 < k + cc ∧ e = 71 ∨ e0 = 0 ∧ ¬ 8192 < k + cc ∧ b.length < k + cc ∧ e = 70)
    (hcc : k + cc ≤ 1000000) (A : Option Addr) (c : Nat) (w : World) (hbc : b.length ≤ c) (hc : c ≤ maxLen) (hs : SI w w.heap.size .u8 A b) :
    Calls Try.prog 48 #[.slice A b.length c] w fun e' w' => GetRes (.bad e) w.heap.size e' w' ∧ Below w.heap.size w w' := by
  have PH := Lib.hid (fun W (h : SI W W.heap.size .u8 A b) => getHead_any b hb A b.length c rfl hbc hc W h)
  rw [h0] at PH
  have HS := Lib.hid hs
  obtain ⟨m, hmm⟩ : ∃ m, b.length = m := ⟨_, rfl⟩
  rw [hmm] at PH hl hbc he ⊢
  have D0 := Lib.hid ((Below.refl w.heap.size w).alloc (Nat.le_refl _) (.cells #[.int .i64 0, .slice none 0 0, .slice none 0 0] 25))
  have K0 := Lib.hid (Blk.new w 25 #[.int .i64 0, .slice none 0 0, .slice none 0 0])
  clear hs hb h0 hmm
  rcases he with ⟨hne, rfl⟩ | ⟨rfl, h8, rfl⟩ | ⟨rfl, h8, hlt, rfl⟩
  · have q : (e == 0) = false := by simpa using hne
    clear hne hcc hbc hc hl
    go_enter Try.func48, Try.ntmps48
    go_wp2_with fail
    refine (PH.out _ (HS.out.on D0.out)).mono ?_; rintro _ w2 ⟨rfl, bb⟩
    have B2 := Lib.hid (below_on D0.out bb)
    have K2 := Lib.hid (K0.out.below bb K0.out.lt)
    clear bb
    have j0 := K2.out.cell 0
    have j1 := K2.out.cell 1
    have j2 := K2.out.cell 2
    have f0 := K2.out.free 0
    have f1 := K2.out.free 1
    have f2 := K2.out.free 2
    go_wp2_with fail
    have hk := ((K2.out.set 0 (.int .i64 0)).set 1 (.slice none 0 0)).set 2 (.slice none 0 0)
    have x0 := hk.cell 0
    have x1 := hk.cell 1
    have x2 := hk.cell 2
    refine bodyPost_ret (v := .tuple #[.agg #[.int .i64 0, .slice none 0 0, .slice none 0 0], .int .i64 0, .int .i64 e]) (by simp [results, Try.results48, go_sem, x0, x1, x2]) rfl ⟨rfl, ?_⟩
    exact below_setR (below_setR (below_setR B2.out (Nat.le_refl _) _) (Nat.le_refl _) _) (Nat.le_refl _) _
  all_goals
    obtain ⟨s, hss⟩ : ∃ s, k + cc = s := ⟨_, rfl⟩
    rw [hss] at h8
    have hw : IntKind.i64.wrap ((k : Int) + (cc : Int)) = (s : Int) := by rw [show (k : Int) + (cc : Int) = (s : Int) by omega]; exact IntWalk.i64_in _ (by omega)
  · have q1 : decide ((8192 : Int) < (s : Int)) = true := decide_eq_true (by omega)
    have q1' : decide (8192 < s) = true := decide_eq_true h8
    clear h8 hss hcc hbc hc hl
    go_enter Try.func48, Try.ntmps48
    go_wp2_with fail
    refine (PH.out _ (HS.out.on D0.out)).mono ?_; rintro _ w2 ⟨rfl, bb⟩
    have B2 := Lib.hid (below_on D0.out bb)
    have K2 := Lib.hid (K0.out.below bb K0.out.lt)
    clear bb
    have j0 := K2.out.cell 0
    have j1 := K2.out.cell 1
    have j2 := K2.out.cell 2
    have f0 := K2.out.free 0
    have f1 := K2.out.free 1
    have f2 := K2.out.free 2
    go_wp2_with fail
    have hk := ((K2.out.set 0 (.int .i64 0)).set 1 (.slice none 0 0)).set 2 (.slice none 0 0)
    have x0 := hk.cell 0
    have x1 := hk.cell 1
    have x2 := hk.cell 2
    refine bodyPost_ret (v := .tuple #[.agg #[.int .i64 0, .slice none 0 0, .slice none 0 0], .int .i64 0, .int .i64 71]) (by simp [results, Try.results48, go_sem, x0, x1, x2]) rfl ⟨rfl, ?_⟩
    exact below_setR (below_setR (below_setR B2.out (Nat.le_refl _) _) (Nat.le_refl _) _) (Nat.le_refl _) _
  · have q1 : decide ((8192 : Int) < (s : Int)) = false := decide_eq_false (by omega)
    have q1' : decide (8192 < s) = false := decide_eq_false h8
    have q2 : decide ((m : Int) < (s : Int)) = true := decide_eq_true (by omega)
    have q2' : decide (m < s) = true := decide_eq_true (by omega)
    clear h8 hss hcc hbc hc hl hlt
    go_enter Try.func48, Try.ntmps48
    go_wp2_with fail
    refine (PH.out _ (HS.out.on D0.out)).mono ?_; rintro _ w2 ⟨rfl, bb⟩
    have B2 := Lib.hid (below_on D0.out bb)
    have K2 := Lib.hid (K0.out.below bb K0.out.lt)
    clear bb
    have j0 := K2.out.cell 0
    have j1 := K2.out.cell 1
    have j2 := K2.out.cell 2
    have f0 := K2.out.free 0
    have f1 := K2.out.free 1
    have f2 := K2.out.free 2
    go_wp2_with fail
    have hk := ((K2.out.set 0 (.int .i64 0)).set 1 (.slice none 0 0)).set 2 (.slice none 0 0)
    have x0 := hk.cell 0
    have x1 := hk.cell 1
    have x2 := hk.cell 2
    refine bodyPost_ret (v := .tuple #[.agg #[.int .i64 0, .slice none 0 0, .slice none 0 0], .int .i64 0, .int .i64 70]) (by simp [results, Try.results48, go_sem, x0, x1, x2]) rfl ⟨rfl, ?_⟩
    exact below_setR (below_setR (below_setR B2.out (Nat.le_refl _) _) (Nat.le_refl _) _) (Nat.le_refl _) _

set_option maxRecDepth 100000 in
set_option maxHeartbeats 8000000 in
theorem get_seq (b : List Int) (hb : ∀ x ∈ b, 0 ≤ x ∧ x < 256) (hl : b.length ≤ 100000) (k cc : Nat) (t : Int) (h0 : hdS b = (k, cc, 0)) (hk : 2 ≤ k) (ht : b[0]?.getD 0 = t) (h48 : t = 48) (hGA : GetAllOf ((b.drop k).take cc)) (h8 : k + cc ≤ 8192) (hm : k + cc ≤ b.length)
    (A : Option Addr) (c : Nat) (w : World) (hbc : b.length ≤ c) (hc : c ≤ maxLen) (hs : SI w w.heap.size .u8 A b) :
    Calls Try.prog 48 #[.slice A b.length c] w fun e w' => GetRes (match rawL ((b.drop k).take cc) with | some l => .ok (.mk 48 [] l) (k + cc) | none => .bad 71) w.heap.size e w' ∧ Below w.heap.size w w' := by
  obtain ⟨ad, rfl, had, c00⟩ : ∃ ad, A = some ad ∧ ad.block < w.heap.size ∧ w.cell? ad = some (.int .u8 t) := by
    obtain ⟨ad, e, h, c⟩ := hs 0 (by omega)
    rw [ht] at c
    exact ⟨ad, e, h, by simpa [Addr.add] using c⟩
  have htb : 0 ≤ t ∧ t < 256 := by
    rw [← ht, List.getElem?_eq_getElem (show 0 < b.length by omega)]
    exact hb _ (List.getElem_mem _)
  have ht0 : (0 : Int) ≤ 48 := by omega
  have ht1 : (48 : Int) < 256 := by omega
  subst h48
  have PH := Lib.hid (fun W (h : SI W W.heap.size .u8 (some ad) b) => getHead_any b hb (some ad) b.length c rfl hbc hc W h)
  rw [h0] at PH
  have PD := Lib.hid (fun W => (demandOf_any 48 W).mono fun e w' h => (⟨h.1.1 rfl, h.2⟩ : e = .returned (.tuple #[.agg #[.int .i64 48, .func (.func 85) #[] #[], .bool true], .bool true]) ∧ Below W.heap.size W w'))
  have hcl : ((b.drop k).take cc).length = cc := by rw [List.length_take, List.length_drop]; omega
  have hcl2 : ((b.drop k).take cc).length = k + cc - k := by omega
  have PGb := Lib.hid (fun W (h : SI W W.heap.size .u8 (some ad) b) => hGA (some (ad.add k)) (c - k) W (by omega) (by omega) (si_part h k cc hm))
  have PGa := Lib.hid (fun (h : c = k) W => hGA (some ad) 0 W (by omega) (by omega) (fun j hj => by omega))
  rw [hcl2] at PGa PGb
  have HS := Lib.hid hs
  obtain ⟨m, hmm⟩ : ∃ m, b.length = m := ⟨_, rfl⟩
  rw [hmm] at PH hm hl hbc ⊢
  obtain ⟨s, hss⟩ : ∃ s, k + cc = s := ⟨_, rfl⟩
  have hw : IntKind.i64.wrap ((k : Int) + (cc : Int)) = (s : Int) := by rw [show (k : Int) + (cc : Int) = (s : Int) by omega]; exact IntWalk.i64_in _ (by omega)
  have q1 : decide ((8192 : Int) < (s : Int)) = false := decide_eq_false (by omega)
  have q2 : decide ((m : Int) < (s : Int)) = false := decide_eq_false (by omega)
  have q1' : decide (8192 < s) = false := decide_eq_false (by omega)
  have q2' : decide (m < s) = false := decide_eq_false (by omega)
  have g1 : (k : Int) ≤ (s : Int) := by omega
  have g1' : k ≤ s := by omega
  have g2' : s ≤ c := by omega
  have g2 : (s : Int) ≤ (c : Int) := by omega
  have g3 : (0 : Int) ≤ (k : Int) := by omega
  have g4 : (0 : Int) < (m : Int) := by omega
  rw [hss] at PGa PGb ⊢
  clear hcl hcl2 hGA
  generalize rawL ((b.drop k).take cc) = rl at *
  have D0 := Lib.hid ((Below.refl w.heap.size w).alloc (Nat.le_refl _) (.cells #[.int .i64 0, .slice none 0 0, .slice none 0 0] 25))
  have K0 := Lib.hid (Blk.new w 25 #[.int .i64 0, .slice none 0 0, .slice none 0 0])
  have HK := Lib.hid (And.intro hk (And.intro hss (And.intro hm hbc)))
  clear hs hb h0 hk ht h8 hm hbc hc hl hmm hss htb ht0 ht1
  go_enter Try.func48, Try.ntmps48
  go_wp2_with fail
  refine (PH.out _ (HS.out.on D0.out)).mono ?_; rintro _ w2 ⟨rfl, bb⟩
  have B2 := Lib.hid (below_on D0.out bb)
  have K2 := Lib.hid (K0.out.below bb K0.out.lt)
  clear bb
  have hadl : ad.block < w.heap.size := had
  have e0 := (B2.out.cell (p := ad) hadl).trans c00
  have k0 := K2.out.cell 0
  have f0 := K2.out.free 0
  go_wp2_with fail
  refine (PD.out _).mono ?_; rintro _ w3 ⟨rfl, bb⟩
  have B3 := Lib.hid (((B2.out.setCell (Nat.le_refl _) _).trans (bb.mono (by simpa using B2.out.size))))
  have K3 := Lib.hid ((K2.out.set 0 (.int .i64 48)).below bb (by simpa using K2.out.lt))
  clear bb e0 k0 f0
  have k1 := K3.out.cell 1
  have f1 := K3.out.free 1
  have k2 := K3.out.cell 2
  have f2 := K3.out.free 2
  go_wp2_with fail
  case inl =>
    have B3' := Lib.hid (B3.out.alloc B3.out.size (.cells #[.int .i64 48, .func (.func 85) #[] #[], .bool true] 75))
    refine (PGa.out (by assumption) _).mono ?_; rintro _ w4 ⟨ho, bb⟩
    have B4 := Lib.hid (below_on B3'.out bb)
    have K4 := Lib.hid ((K3.out.alloc (.cells #[.int .i64 48, .func (.func 85) #[] #[], .bool true] 75)).below bb (by have := K3.out.lt; simp; omega))
    have hsz : w.heap.size + 1 ≤ (w3.alloc (.cells #[.int .i64 48, .func (.func 85) #[] #[], .bool true] 75)).heap.size := by have := K3.out.lt; simp; omega
    have HSZ := Lib.hid hsz
    clear bb k1 f1 k2 f2 hsz
    have j0 := K4.out.cell 0
    have j1 := K4.out.cell 1
    have j2 := K4.out.cell 2
    have f0 := K4.out.free 0
    have f1 := K4.out.free 1
    have f2 := K4.out.free 2
    cases rl with
    | none =>
      obtain rfl : _ = _ := ho
      go_wp2_with fail
      have hk := (((K4.out.set 2 (.slice none 0 0)).set 0 (.int .i64 0)).set 1 (.slice none 0 0)).set 2 (.slice none 0 0)
      have x0 := hk.cell 0
      have x1 := hk.cell 1
      have x2 := hk.cell 2
      refine bodyPost_ret (v := .tuple #[.agg #[.int .i64 0, .slice none 0 0, .slice none 0 0], .int .i64 0, .int .i64 71]) (by simp [results, Try.results48, go_sem, x0, x1, x2]) rfl ⟨rfl, ?_⟩
      exact below_setR (below_setR (below_setR (below_setR B4.out (Nat.le_refl _) _) (Nat.le_refl _) _) (Nat.le_refl _) _) (Nat.le_refl _) _
    | some l =>
      obtain ⟨v4, rfl, ho⟩ : ∃ v, _ = _ ∧ OwnIt w4 _ _ v l := ho
      obtain ⟨A4, c4, rfl, _, _, _⟩ := ho.slice
      have HO := Lib.hid (ho.less HSZ.out HSZ.out)
      clear ho
      have hlt : w.heap.size < w.heap.size + 1 := Nat.lt_succ_self _
      have HI := Lib.hid (itR_fresh (x := .mk 48 [] l) (v := .slice none 0 0) (C := w.heap.size + 1) (own_nilB _ _) ((((HO.out.far (p := ⟨w.heap.size, 2, none⟩) hlt hlt (.slice A4 l.length c4)).far (p := ⟨w.heap.size, 0, none⟩) hlt hlt (.int .i64 48)).far (p := ⟨w.heap.size, 1, none⟩) hlt hlt (.slice none 0 0)).far (p := ⟨w.heap.size, 2, none⟩) hlt hlt (.slice A4 l.length c4)) (fun g e => by cases e) (Nat.le_refl _))
      go_wp2_with fail
      have hk := (((K4.out.set 2 (.slice A4 l.length c4)).set 0 (.int .i64 48)).set 1 (.slice none 0 0)).set 2 (.slice A4 l.length c4)
      have x0 := hk.cell 0
      have x1 := hk.cell 1
      have x2 := hk.cell 2
      refine bodyPost_ret (v := .tuple #[.agg #[.int .i64 48, .slice none 0 0, .slice A4 l.length c4], .int .i64 s, .int .i64 0]) (by simp [results, Try.results48, go_sem, x0, x1, x2]) rfl ⟨⟨none, 0, A4, c4, rfl, HI.out.more (fun g hg => ⟨by omega, hg.2.1⟩)⟩, ?_⟩
      exact below_setR (below_setR (below_setR (below_setR B4.out (Nat.le_refl _) _) (Nat.le_refl _) _) (Nat.le_refl _) _) (Nat.le_refl _) _
  case inr =>
    have B3' := Lib.hid (B3.out.alloc B3.out.size (.cells #[.int .i64 48, .func (.func 85) #[] #[], .bool true] 75))
    refine (PGb.out _ (HS.out.on B3'.out)).mono ?_; rintro _ w4 ⟨ho, bb⟩
    have B4 := Lib.hid (below_on B3'.out bb)
    have K4 := Lib.hid ((K3.out.alloc (.cells #[.int .i64 48, .func (.func 85) #[] #[], .bool true] 75)).below bb (by have := K3.out.lt; simp; omega))
    have hsz : w.heap.size + 1 ≤ (w3.alloc (.cells #[.int .i64 48, .func (.func 85) #[] #[], .bool true] 75)).heap.size := by have := K3.out.lt; simp; omega
    have HSZ := Lib.hid hsz
    clear bb k1 f1 k2 f2 hsz
    have j0 := K4.out.cell 0
    have j1 := K4.out.cell 1
    have j2 := K4.out.cell 2
    have f0 := K4.out.free 0
    have f1 := K4.out.free 1
    have f2 := K4.out.free 2
    cases rl with
    | none =>
      obtain rfl : _ = _ := ho
      go_wp2_with fail
      have hk := (((K4.out.set 2 (.slice none 0 0)).set 0 (.int .i64 0)).set 1 (.slice none 0 0)).set 2 (.slice none 0 0)
      have x0 := hk.cell 0
      have x1 := hk.cell 1
      have x2 := hk.cell 2
      refine bodyPost_ret (v := .tuple #[.agg #[.int .i64 0, .slice none 0 0, .slice none 0 0], .int .i64 0, .int .i64 71]) (by simp [results, Try.results48, go_sem, x0, x1, x2]) rfl ⟨rfl, ?_⟩
      exact below_setR (below_setR (below_setR (below_setR B4.out (Nat.le_refl _) _) (Nat.le_refl _) _) (Nat.le_refl _) _) (Nat.le_refl _) _
    | some l =>
      obtain ⟨v4, rfl, ho⟩ : ∃ v, _ = _ ∧ OwnIt w4 _ _ v l := ho
      obtain ⟨A4, c4, rfl, _, _, _⟩ := ho.slice
      have HO := Lib.hid (ho.less HSZ.out HSZ.out)
      clear ho
      have hlt : w.heap.size < w.heap.size + 1 := Nat.lt_succ_self _
      have HI := Lib.hid (itR_fresh (x := .mk 48 [] l) (v := .slice none 0 0) (C := w.heap.size + 1) (own_nilB _ _) ((((HO.out.far (p := ⟨w.heap.size, 2, none⟩) hlt hlt (.slice A4 l.length c4)).far (p := ⟨w.heap.size, 0, none⟩) hlt hlt (.int .i64 48)).far (p := ⟨w.heap.size, 1, none⟩) hlt hlt (.slice none 0 0)).far (p := ⟨w.heap.size, 2, none⟩) hlt hlt (.slice A4 l.length c4)) (fun g e => by cases e) (Nat.le_refl _))
      go_wp2_with fail
      have hk := (((K4.out.set 2 (.slice A4 l.length c4)).set 0 (.int .i64 48)).set 1 (.slice none 0 0)).set 2 (.slice A4 l.length c4)
      have x0 := hk.cell 0
      have x1 := hk.cell 1
      have x2 := hk.cell 2
      refine bodyPost_ret (v := .tuple #[.agg #[.int .i64 48, .slice none 0 0, .slice A4 l.length c4], .int .i64 s, .int .i64 0]) (by simp [results, Try.results48, go_sem, x0, x1, x2]) rfl ⟨⟨none, 0, A4, c4, rfl, HI.out.more (fun g hg => ⟨by omega, hg.2.1⟩)⟩, ?_⟩
      exact below_setR (below_setR (below_setR (below_setR B4.out (Nat.le_refl _) _) (Nat.le_refl _) _) (Nat.le_refl _) _) (Nat.le_refl _) _
end Go.Proofs.Yteafbfhojhpbgaa

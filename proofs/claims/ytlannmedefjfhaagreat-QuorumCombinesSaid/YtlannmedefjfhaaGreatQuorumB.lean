/- What package quorum does inside: weights among shares, whether a signer may be. -/
import Derived.Test.YtlannmedefjfhaaGreatQuorumA
namespace Go.Proofs.YtlannmedefjfhaaGreat
open Go.ChangeShapes Go.WideShapes Go.ChangeAt Go.RowKit Gs
set_option linter.unusedVariables false

set_option maxHeartbeats 2000000 in
theorem qweight (A : Option Addr) (n c : Nat) (l : List (Int × Int)) (hn : l.length = n) (ids : List Int) (hids : l.map Prod.fst = ids) (hr : RightI ids) (i : Int) (hi : i ∈ ids) (w : World) (hs : SS w w.heap.size A l) :
    Calls Tryz.prog 58 #[.slice A n c, .int .i64 i] w fun e w' => e = .returned (.int .u64 (wat ids i 0)) ∧ Below w.heap.size w w' := by
  have hl : n ≤ 1048576 := by have := hr.2.1; rw [← hids] at this; simp at this; omega
  have B0 := Lib.hid (Below.refl w.heap.size w)
  have P1 := Lib.hid (each_ids A n c l hn hl w hs)
  have HN := Lib.hid (show ids.length = n by rw [← hids, ← hn]; simp)
  rw [hids] at P1
  have P2 := Lib.hid (fun A c (h1 : n ≤ c) (h2 : c ≤ maxLen) (w : World) (h3 : SI w w.heap.size .i64 A ids) => by
    have h := Weight_any A c ids (by rw [HN.out]; exact hl) (by rw [HN.out]; exact h1) h2 i w h3
    rw [HN.out] at h
    exact h.mono fun r w' (h : WeightE ids i r ∧ Below w.heap.size w w') => (⟨h.1.1 ⟨hr, hi⟩, h.2⟩ : r = .returned (.tuple #[.int .u64 (wat ids i 0), .int .i64 0]) ∧ Below w.heap.size w w'))
  clear hn hids hs hr hi
  go_enter Tryz.func58, Tryz.ntmps58
  go_wp2_with fail
  refine P1.out.mono ?_; rintro e w1 ⟨v, rfl, ho, b⟩
  obtain ⟨A', c', rfl, hc1, hc2, hs1, _⟩ := own_sliceI ho
  have HI1 := Lib.hid hs1
  have B1 := Lib.hid (below_on B0.out b)
  clear ho b hs1
  rw [HN.out] at hc1 ⊢
  go_wp2_with fail
  refine (P2.out _ _ hc1 hc2 _ HI1.out).mono ?_; rintro e w2 ⟨rfl, b⟩
  have B2 := Lib.hid (below_on B1.out b)
  clear b
  go_wp2_with fail
  go_ret
  exact ⟨rfl, B2.out⟩

theorem tmay_ok (x : Int × Int) (n : Int) (A : Option Addr) (m c : Nat) (h : SignerOk x n) (w : World) :
    Calls Tryz.prog 48 #[.agg #[.int .i64 x.1, .int .u64 x.2, .int .i64 n, .slice A m c]] w fun e w' => e = .returned (.int .i64 0) ∧ Below w.heap.size w w' := by
  obtain ⟨h1, h2, h3, h4, h5⟩ := h
  have D0 := Lib.hid ((Below.refl w.heap.size w).alloc (Nat.le_refl _) (.cells #[.int .i64 x.1, .int .u64 x.2, .int .i64 n, .slice A m c] 73))
  go_enter Tryz.func48, Tryz.ntmps48
  go_wp2_with fail
  go_ret
  exact ⟨rfl, D0.out⟩
theorem tmay_no (x : Int × Int) (n : Int) (A : Option Addr) (m c : Nat) (h : ¬ SignerOk x n) (w : World) :
    Calls Tryz.prog 48 #[.agg #[.int .i64 x.1, .int .u64 x.2, .int .i64 n, .slice A m c]] w fun e w' => e = .returned (.int .i64 1) ∧ Below w.heap.size w w' := by
  have h : x.1 < 1 ∨ (1 ≤ x.1 ∧ 7 < x.1) ∨ (1 ≤ x.1 ∧ x.1 ≤ 7 ∧ 1152921504606845789 ≤ x.2) ∨ (1 ≤ x.1 ∧ x.1 ≤ 7 ∧ x.2 < 1152921504606845789 ∧ n < 0) ∨ (1 ≤ x.1 ∧ x.1 ≤ 7 ∧ x.2 < 1152921504606845789 ∧ 0 ≤ n ∧ 1099511627776 < n) := by unfold SignerOk at h; omega
  have D0 := Lib.hid ((Below.refl w.heap.size w).alloc (Nat.le_refl _) (.cells #[.int .i64 x.1, .int .u64 x.2, .int .i64 n, .slice A m c] 73))
  rcases h with h | ⟨h1, h2⟩ | ⟨h1, h2, h3⟩ | ⟨h1, h2, h3, h4⟩ | ⟨h1, h2, h3, h4, h5⟩
  all_goals
    go_enter Tryz.func48, Tryz.ntmps48
    go_wp2_with fail
    go_ret
    exact ⟨rfl, D0.out⟩

/-- What a function among checks is. -/
structure Chk where
  f : FuncId
  first : Array Value
def Chk.val (k : Chk) : Value := .func (.func k.f) k.first #[]

set_option maxHeartbeats 2000000 in
theorem first_any (A : Option Addr) (c : Nat) (ks : List Chk) (es : List Int) (hke : ks.length = es.length) (hl : ks.length ≤ 100) (w : World) (hs : ∀ j (h : j < ks.length), ∃ ad, A = some ad ∧ ad.block < w.heap.size ∧ w.cell? (ad.add j) = some ks[j].val)
    (hr : ∀ j (h : j < ks.length) args w, (callFunc ks[j].f args).run Tryz.prog w = .ok (.enter ks[j].f args) w)
    (hf : ∀ j (h : j < ks.length) (g : j < es.length), (∀ i (gi : i < es.length), i < j → es[i] = 0) → ∀ W, Below w.heap.size w W → Calls Tryz.prog ks[j].f (ks[j].first ++ #[] ++ #[]) W fun e w' => e = .returned (.int .i64 es[j]) ∧ Below W.heap.size W w') :
    Calls Tryz.prog 41 #[.slice A ks.length c] w fun e w' => e = .returned (.int .i64 (firstE es)) ∧ Below w.heap.size w w' := by
  have HS := Lib.hid hs
  have HF := Lib.hid hf
  have HKE := Lib.hid hke
  clear hs hf hke
  go_enter Tryz.func41, Tryz.ntmps41
  go_wp2_with fail
  go_loopw [8] (fun i wr => ∃ k : Nat, k ≤ ks.length ∧ i = .int .i64 k ∧ (∀ i (g : i < es.length), i < k → es[i] = 0) ∧ Below w.heap.size w wr) (fun i _ => ks.length - (intOf i).toNat)
  case atStart => exact ⟨0, by omega, rfl, fun i g h => by omega, Below.refl _ _⟩
  case round =>
    obtain ⟨k, hk, rfl, h0, hb⟩ := hrel
    have HB := Lib.hid hb
    have H0 := Lib.hid h0
    have hz := hb.size
    clear hb h0
    by_cases hlt : k < ks.length
    · obtain ⟨ad, rfl, had, c0⟩ := HS.out k hlt
      have c1 := (HB.out.cell (p := ad.add k) (by rw [block_of_add]; exact had)).trans c0
      have hke' : k < es.length := by rw [← HKE.out]; exact hlt
      have P := Lib.hid (HF.out k hlt hke' H0.out _ HB.out)
      have HZ := Lib.hid (fun (z : es[k] = 0) => (show ∀ i (g : i < es.length), i < k + 1 → es[i] = 0 from fun i g h => by
        by_cases e : i = k
        · subst e; exact z
        · exact H0.out i g (by omega)))
      have HST := Lib.hid (firstE_stop es k hke' (fun i g h => H0.out i g h))
      clear c0
      unfold Chk.val at c1
      have hrun := hr k hlt
      generalize ks[k].f = ff at c1 P hrun
      generalize ks[k].first = fa at c1 P
      generalize es[k] = x at *
      by_cases hx : x = 0
      · have HZ1 := Lib.hid (HZ.out hx)
        clear HZ
        subst hx
        go_wp2_with fail
        refine P.out.mono ?_; rintro e w2 ⟨rfl, b⟩
        have B2 := Lib.hid (HB.out.trans (b.mono hz))
        clear b
        go_wp2_with fail
        go_roundw
        case rel => exact ⟨k + 1, by omega, by go_num, HZ1.out, B2.out⟩
        case measure => simp [intOf]; omega
      · have hq : (x != 0) = true := by simp [hx]
        have HE := Lib.hid (HST.out hx)
        go_wp2_with fail
        refine P.out.mono ?_; rintro e w2 ⟨rfl, b⟩
        have B2 := Lib.hid (HB.out.trans (b.mono hz))
        clear b
        go_wp2_with fail
        go_ret
        exact ⟨by rw [HE.out]; rfl, B2.out⟩
    · obtain rfl : k = ks.length := by omega
      have HE := Lib.hid (firstE_none es (fun i g => H0.out i g (by rw [HKE.out]; exact g)))
      go_wp2_with fail
      go_ret
      exact ⟨by rw [HE.out]; rfl, HB.out⟩
end Go.Proofs.YtlannmedefjfhaaGreat

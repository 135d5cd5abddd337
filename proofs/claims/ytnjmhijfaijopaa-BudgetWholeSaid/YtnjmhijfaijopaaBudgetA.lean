/- What was spent, in a slice: what it holds; a row that a call has made. -/
import Derived.Test.YtnjmhijfaijopaaFieldLib
import Derived.Test.YtnjmhijfaijopaaRows
import Derived.Test.YtnjmhijfaijopaaBudgetMath
import Derived.RegionTactic
import Derived.Deep.RegionHeldLaw
import Derived.Deep.DrawnRows
import Derived.Deep.RegionWith
import Derived.Laws.EntriesVeiled
import Derived.IntWalk
import Derived.StillTailTactics
namespace Go.Proofs.Ytnjmhijfaijopaa
open Go.ChangeShapes Go.WideShapes Go.ChangeAt Go.RowKit Gs
set_option linter.unusedVariables false

theorem add_atN (g j : Nat) : (Addr.mk g 0 none).add j = ⟨g, j, none⟩ := by
  unfold Addr.add
  split
  · rename_i hj; subst hj; rfl
  · simp
theorem below_on {w0 w w' : World} (h : Below w0.heap.size w0 w) (k : Below w.heap.size w w') : Below w0.heap.size w0 w' := h.trans (k.mono h.size)
/-- The slice '.slice A l.length c' holds l, and lies below block B. -/
def QS (w : World) (B : Nat) (A : Option Addr) (l : List Sp) : Prop :=
  ∀ j (h : j < l.length), ∃ ad, A = some ad ∧ ad.block < B ∧ w.cell? (ad.add (j * 4)) = some (.int .i64 l[j].1) ∧ w.cell? ⟨(ad.add (j * 4)).block, (ad.add (j * 4)).off + 1, none⟩ = some (.int .i64 l[j].2.1) ∧ w.cell? ⟨(ad.add (j * 4)).block, (ad.add (j * 4)).off + 2, none⟩ = some (.int .i64 l[j].2.2.1) ∧ w.cell? ⟨(ad.add (j * 4)).block, (ad.add (j * 4)).off + 3, none⟩ = some (.int .i64 l[j].2.2.2)
theorem QS.below {w w' : World} {B : Nat} {A : Option Addr} {l : List Sp} (h : QS w B A l) (hb : Below B w w') : QS w' B A l := fun j hj => by
  obtain ⟨ad, e, hB, c0, c1, c2, c3⟩ := h j hj
  have hk : (ad.add (j * 4)).block < B := by rw [block_of_add]; exact hB
  exact ⟨ad, e, hB, (hb.cell hk).trans c0, (hb.cell (p := ⟨(ad.add (j * 4)).block, (ad.add (j * 4)).off + 1, none⟩) hk).trans c1, (hb.cell (p := ⟨(ad.add (j * 4)).block, (ad.add (j * 4)).off + 2, none⟩) hk).trans c2, (hb.cell (p := ⟨(ad.add (j * 4)).block, (ad.add (j * 4)).off + 3, none⟩) hk).trans c3⟩
theorem QS.more {w : World} {B B' : Nat} {A : Option Addr} {l : List Sp} (h : QS w B A l) (hB : B ≤ B') : QS w B' A l := fun j hj => by
  obtain ⟨ad, e, hb, c⟩ := h j hj
  exact ⟨ad, e, by omega, c⟩
theorem QS.on {w w' : World} {A : Option Addr} {l : List Sp} (h : QS w w.heap.size A l) (hb : Below w.heap.size w w') : QS w' w'.heap.size A l := (h.below hb).more hb.size
theorem QS.nil (w : World) (B : Nat) (A : Option Addr) : QS w B A [] := fun j hj => by simp at hj

/-- The cells of what was spent. -/
def cellsQ (l : List Sp) : List Value := l.flatMap fun p => [.int .i64 p.1, .int .i64 p.2.1, .int .i64 p.2.2.1, .int .i64 p.2.2.2]
theorem cellsQ_nil : cellsQ [] = [] := rfl
theorem cellsQ_cons (p : Sp) (l : List Sp) : cellsQ (p :: l) = .int .i64 p.1 :: .int .i64 p.2.1 :: .int .i64 p.2.2.1 :: .int .i64 p.2.2.2 :: cellsQ l := rfl
theorem cellsQ_append (a b : List Sp) : cellsQ (a ++ b) = cellsQ a ++ cellsQ b := by simp [cellsQ]
theorem cellsQ_length : ∀ l : List Sp, (cellsQ l).length = l.length * 4
  | [] => rfl
  | p :: l => by rw [cellsQ_cons]; simp [cellsQ_length l]; omega
theorem cellsQ_at : ∀ (l : List Sp) (j : Nat) (h : j < l.length), (cellsQ l)[j * 4]? = some (.int .i64 l[j].1) ∧ (cellsQ l)[j * 4 + 1]? = some (.int .i64 l[j].2.1) ∧ (cellsQ l)[j * 4 + 2]? = some (.int .i64 l[j].2.2.1) ∧ (cellsQ l)[j * 4 + 3]? = some (.int .i64 l[j].2.2.2)
  | p :: l, 0, _ => by simp [cellsQ_cons]
  | p :: l, j + 1, h => by
    have ih := cellsQ_at l j (by simpa using h)
    rw [cellsQ_cons, show (j + 1) * 4 = j * 4 + 1 + 1 + 1 + 1 by omega]
    simpa using ih
theorem cellsQ_one (l : List Sp) : ∀ u ∈ cellsQ l, u.oneCell' = true := by
  intro u hu
  obtain ⟨p, _, hp⟩ := List.mem_flatMap.1 hu
  simp at hp
  rcases hp with rfl | rfl | rfl | rfl <;> rfl
theorem cellsQ_take : ∀ (l : List Sp) (k : Nat), (cellsQ l).take (k * 4) = cellsQ (l.take k)
  | _, 0 => by simp [cellsQ_nil]
  | [], _ => by simp [cellsQ_nil]
  | p :: l, k + 1 => by rw [cellsQ_cons, show (k + 1) * 4 = k * 4 + 1 + 1 + 1 + 1 by omega, List.take_succ_cons, List.take_succ_cons, List.take_succ_cons, List.take_succ_cons, cellsQ_take l k, List.take_succ_cons, cellsQ_cons]

theorem isNumber_any (t : Int) (w : World) : Calls Try.prog 39 #[.int .i64 t] w fun e w' => e = .returned (.bool (nmB t)) ∧ w = w' := by
  by_cases h0 : 0 ≤ t
  · by_cases h1 : t ≤ 1099511627776
    · rw [show nmB t = true from nmB_iff.2 ⟨h0, h1⟩]
      have a := decide_eq_true h0; have b := decide_eq_true h1
      go_enter Try.func39, Try.ntmps39
      go_wp2
      go_ret
      exact ⟨by simp_all, rfl⟩
    · rw [show nmB t = false from nmB_no.2 (by omega)]
      go_enter Try.func39, Try.ntmps39
      go_wp2
      go_ret
      exact ⟨by simp_all, rfl⟩
  · rw [show nmB t = false from nmB_no.2 (by omega)]
    go_enter Try.func39, Try.ntmps39
    go_wp2
    go_ret
    exact ⟨by simp_all, rfl⟩
theorem number17_any (t : Int) (w : World) : Calls Try.prog 26 #[.int .i64 t] w fun e w' => e = .returned (.bool (nmB t)) ∧ w = w' := by
  by_cases h0 : 0 ≤ t
  · by_cases h1 : t ≤ 1099511627776
    · rw [show nmB t = true from nmB_iff.2 ⟨h0, h1⟩]
      go_enter Try.func26, Try.ntmps26
      go_wp2
      go_ret
      exact ⟨by simp_all, rfl⟩
    · rw [show nmB t = false from nmB_no.2 (by omega)]
      go_enter Try.func26, Try.ntmps26
      go_wp2
      go_ret
      exact ⟨by simp_all, rfl⟩
  · rw [show nmB t = false from nmB_no.2 (by omega)]
    go_enter Try.func26, Try.ntmps26
    go_wp2
    go_ret
    exact ⟨by simp_all, rfl⟩
theorem numbered17_any (t : Int) (w : World) : Calls Try.prog 27 #[.int .i64 t] w fun e w' => e = .returned (.bool (rlB t)) ∧ w = w' := by
  by_cases h0 : 0 ≤ t
  · by_cases h1 : t < 32
    · rw [show rlB t = true from rlB_iff.2 ⟨h0, h1⟩]
      go_enter Try.func27, Try.ntmps27
      go_wp2
      go_ret
      exact ⟨by simp_all, rfl⟩
    · rw [show rlB t = false from rlB_no.2 (by omega)]
      go_enter Try.func27, Try.ntmps27
      go_wp2
      go_ret
      exact ⟨by simp_all, rfl⟩
  · rw [show rlB t = false from rlB_no.2 (by omega)]
    go_enter Try.func27, Try.ntmps27
    go_wp2
    go_ret
    exact ⟨by simp_all, rfl⟩
theorem isNaN_any (t : Int) (w : World) : Calls Try.prog 53 #[.int .i64 t] w fun e w' => e = .returned (.bool false) ∧ w = w' := by
  go_enter Try.func53, Try.ntmps53
  go_wp2
  go_ret
  exact ⟨by simp, rfl⟩
theorem Compare_any (a b : Int) (w : World) : Calls Try.prog 44 #[.int .i64 a, .int .i64 b] w fun e w' => e = .returned (.int .i64 (cmpI a b)) ∧ w = w' := by
  have P := Lib.hid (fun t => isNaN_any t w)
  by_cases h : a < b
  · rw [show cmpI a b = -1 by unfold cmpI; rw [if_pos h]]
    go_enter Try.func44, Try.ntmps44
    go_wp2_with fail
    refine (P.out _).mono ?_; rintro e w1 ⟨rfl, rfl⟩
    go_wp2_with fail
    refine (P.out _).mono ?_; rintro e w1 ⟨rfl, rfl⟩
    go_wp2_with fail
    go_ret
    exact ⟨rfl, rfl⟩
  · by_cases h' : b < a
    · rw [show cmpI a b = 1 by unfold cmpI; rw [if_neg h, if_pos h']]
      go_enter Try.func44, Try.ntmps44
      go_wp2_with fail
      refine (P.out _).mono ?_; rintro e w1 ⟨rfl, rfl⟩
      go_wp2_with fail
      refine (P.out _).mono ?_; rintro e w1 ⟨rfl, rfl⟩
      go_wp2_with fail
      go_ret
      exact ⟨rfl, rfl⟩
    · rw [show cmpI a b = 0 by unfold cmpI; rw [if_neg h, if_neg h']]
      go_enter Try.func44, Try.ntmps44
      go_wp2_with fail
      refine (P.out _).mono ?_; rintro e w1 ⟨rfl, rfl⟩
      go_wp2_with fail
      refine (P.out _).mono ?_; rintro e w1 ⟨rfl, rfl⟩
      go_wp2_with fail
      go_ret
      exact ⟨rfl, rfl⟩
theorem ownerOf_any (a r s m : Int) (w : World) : Calls Try.prog 25 #[.agg #[.int .i64 a, .int .i64 r, .int .i64 s, .int .i64 m]] w fun e w' => e = .returned (.agg #[.int .i64 a, .int .i64 r]) ∧ Below w.heap.size w w' := by
  go_enter Try.func25, Try.ntmps25
  go_wp2_with fail
  refine bodyPost_ret (v := .agg #[.int .i64 a, .int .i64 r]) (by simp [results, Try.results25, go_sem]) rfl ⟨rfl, ?_⟩
  exact ((Below.refl _ _).alloc (Nat.le_refl _) _).alloc ((Below.refl _ _).alloc (Nat.le_refl _) _).size _
theorem ownerMayBe_any (a r : Int) (w : World) : Calls Try.prog 42 #[.agg #[.int .i64 a, .int .i64 r]] w fun e w' => e = .returned (.bool (nmB a && rlB r)) ∧ Below w.heap.size w w' := by
  have P := Lib.hid (fun w => isNumber_any a w)
  cases hn : nmB a with
  | true =>
    rw [hn] at P
    by_cases h0 : 0 ≤ r
    · by_cases h1 : r < 32
      · rw [show rlB r = true from rlB_iff.2 ⟨h0, h1⟩]
        go_enter Try.func42, Try.ntmps42
        go_wp2_with fail
        refine (P.out _).mono ?_; rintro e w1 ⟨rfl, rfl⟩
        go_wp2_with fail
        go_ret
        exact ⟨by simp_all, (Below.refl _ _).alloc (Nat.le_refl _) _⟩
      · rw [show rlB r = false from rlB_no.2 (by omega)]
        go_enter Try.func42, Try.ntmps42
        go_wp2_with fail
        refine (P.out _).mono ?_; rintro e w1 ⟨rfl, rfl⟩
        go_wp2_with fail
        go_ret
        exact ⟨by simp_all, (Below.refl _ _).alloc (Nat.le_refl _) _⟩
    · rw [show rlB r = false from rlB_no.2 (by omega)]
      go_enter Try.func42, Try.ntmps42
      go_wp2_with fail
      refine (P.out _).mono ?_; rintro e w1 ⟨rfl, rfl⟩
      go_wp2_with fail
      go_ret
      exact ⟨by simp_all, (Below.refl _ _).alloc (Nat.le_refl _) _⟩
  | false =>
    rw [hn] at P
    go_enter Try.func42, Try.ntmps42
    go_wp2_with fail
    refine (P.out _).mono ?_; rintro e w1 ⟨rfl, rfl⟩
    go_wp2_with fail
    go_ret
    exact ⟨by simp_all, (Below.refl _ _).alloc (Nat.le_refl _) _⟩
end Go.Proofs.Ytnjmhijfaijopaa

/- The walk of the law CyclicRing. -/
import Derived.Test.YteoiippfpfgiiaaCycLive
import Derived.Test.YteoiippfpfgiiaaCycGroupMath
namespace Go.Proofs.Yteoiippfpfgiiaa
open Go.ChangeShapes Go.WideShapes Go.ChangeAt Go.RowKit Gs
set_option linter.unusedVariables false

set_option maxHeartbeats 2000000 in
theorem ring_walk3 (a b c : Int) [ha : IsU a] [hb : IsU b] [hc : IsU c] (w : World) :
    Calls Try.prog 10 #[.int .u64 a, .int .u64 b, .int .u64 c] w fun e w' => e = .returned (.bool true) ∧ Below w.heap.size w w' := by
  have a0 := ha.1
  have b0 := hb.1
  have A1 := Lib.hid (AddR_r a b)
  have M1 := Lib.hid (MulR_r (radd a b) c)
  rw [rmul_add] at M1
  have M2 := Lib.hid (MulR_r a c)
  have M3 := Lib.hid (MulR_r b c)
  have A2 := Lib.hid (AddR_r (rmul a c) (rmul b c))
  have V := Lib.hid (InvR_r b)
  have A3 := Lib.hid (AddR_r b a)
  rw [radd_comm] at A3
  have M4 := Lib.hid (MulR_r a b)
  have M5 := Lib.hid (MulR_r b a)
  rw [rmul_comm] at M5
  have S1 := Lib.hid (SubR_r (radd a b) b)
  rw [rsub_add] at S1
  have M6 := Lib.hid (MulR_r (rmul a b) (rinv b))
  have hs := (radd_bound a b).2
  by_cases hz : b % 1152921504606845789 = 0
  · have e : rerr b = 10 := by unfold rerr; rw [if_pos hz]
    rw [e] at V
    clear e M6
    generalize radd (rmul a c) (rmul b c) = l at *
    generalize radd a b = s at *
    generalize rmul a c = ac at *
    generalize rmul b c = bc at *
    generalize rmul a b = ab at *
    generalize rinv b = i at *
    have B0 := Lib.hid (Below.refl w.heap.size w)
    go_enter Try.func10, Try.ntmps10
    go_wp2_with fail
    refine (live3 _).mono ?_; rintro e w1 ⟨rfl, b⟩; have B1 := Lib.hid (below_on B0.out b); clear b
    go_wp2_with fail
    refine (A1.out _).mono ?_; rintro e w' ⟨rfl, rfl⟩
    go_wp2_with fail
    refine (M1.out _).mono ?_; rintro e w2 ⟨rfl, b⟩; have B2 := Lib.hid (below_on B1.out b); clear b
    go_wp2_with fail
    refine (M2.out _).mono ?_; rintro e w3 ⟨rfl, b⟩; have B3 := Lib.hid (below_on B2.out b); clear b
    go_wp2_with fail
    refine (M3.out _).mono ?_; rintro e w4 ⟨rfl, b⟩; have B4 := Lib.hid (below_on B3.out b); clear b
    go_wp2_with fail
    refine (A2.out _).mono ?_; rintro e w' ⟨rfl, rfl⟩
    go_wp2_with fail
    refine (V.out _).mono ?_; rintro e w5 ⟨rfl, b⟩; have B5 := Lib.hid (below_on B4.out b); clear b
    go_wp2_with fail
    refine (A3.out _).mono ?_; rintro e w' ⟨rfl, rfl⟩
    go_wp2_with fail
    refine (M4.out _).mono ?_; rintro e w6 ⟨rfl, b⟩; have B6 := Lib.hid (below_on B5.out b); clear b
    go_wp2_with fail
    refine (M5.out _).mono ?_; rintro e w7 ⟨rfl, b⟩; have B7 := Lib.hid (below_on B6.out b); clear b
    go_wp2_with fail
    refine (S1.out _).mono ?_; rintro e w' ⟨rfl, rfl⟩
    go_wp2_with fail
    go_ret
    exact ⟨rfl, B7.out⟩
  · have e : rerr b = 0 := by unfold rerr; rw [if_neg hz]
    rw [e] at V
    rw [rdiv b0 hz] at M6
    clear e
    have hz' : (b % 1152921504606845789 == 0) = false := beq_eq_false_iff_ne.2 hz
    generalize radd (rmul a c) (rmul b c) = l at *
    generalize radd a b = s at *
    generalize rmul a c = ac at *
    generalize rmul b c = bc at *
    generalize rmul a b = ab at *
    generalize rinv b = i at *
    have B0 := Lib.hid (Below.refl w.heap.size w)
    go_enter Try.func10, Try.ntmps10
    go_wp2_with fail
    refine (live3 _).mono ?_; rintro e w1 ⟨rfl, b⟩; have B1 := Lib.hid (below_on B0.out b); clear b
    go_wp2_with fail
    refine (A1.out _).mono ?_; rintro e w' ⟨rfl, rfl⟩
    go_wp2_with fail
    refine (M1.out _).mono ?_; rintro e w2 ⟨rfl, b⟩; have B2 := Lib.hid (below_on B1.out b); clear b
    go_wp2_with fail
    refine (M2.out _).mono ?_; rintro e w3 ⟨rfl, b⟩; have B3 := Lib.hid (below_on B2.out b); clear b
    go_wp2_with fail
    refine (M3.out _).mono ?_; rintro e w4 ⟨rfl, b⟩; have B4 := Lib.hid (below_on B3.out b); clear b
    go_wp2_with fail
    refine (A2.out _).mono ?_; rintro e w' ⟨rfl, rfl⟩
    go_wp2_with fail
    refine (V.out _).mono ?_; rintro e w5 ⟨rfl, b⟩; have B5 := Lib.hid (below_on B4.out b); clear b
    go_wp2_with fail
    refine (A3.out _).mono ?_; rintro e w' ⟨rfl, rfl⟩
    go_wp2_with fail
    refine (M4.out _).mono ?_; rintro e w6 ⟨rfl, b⟩; have B6 := Lib.hid (below_on B5.out b); clear b
    go_wp2_with fail
    refine (M5.out _).mono ?_; rintro e w7 ⟨rfl, b⟩; have B7 := Lib.hid (below_on B6.out b); clear b
    go_wp2_with fail
    refine (S1.out _).mono ?_; rintro e w' ⟨rfl, rfl⟩
    go_wp2_with fail
    refine (M4.out _).mono ?_; rintro e w8 ⟨rfl, b⟩; have B8 := Lib.hid (below_on B7.out b); clear b
    go_wp2_with fail
    refine (M6.out _).mono ?_; rintro e w9 ⟨rfl, b⟩; have B9 := Lib.hid (below_on B8.out b); clear b
    go_wp2_with fail
    go_ret
    exact ⟨rfl, B9.out⟩
end Go.Proofs.Yteoiippfpfgiiaa

/- The walk of the law CyclicField. -/
import Derived.Test.YteoiippfpfgiiaaCycLive
import Derived.Test.YteoiippfpfgiiaaCycGroupMath
namespace Go.Proofs.Yteoiippfpfgiiaa
open Go.ChangeShapes Go.WideShapes Go.ChangeAt Go.RowKit Gs
set_option linter.unusedVariables false

set_option maxHeartbeats 2000000 in
theorem field_walk3 (a b : Int) [ha : IsU a] [hb : IsU b] (w : World) :
    Calls Try.prog 11 #[.int .u64 a, .int .u64 b] w fun e w' => e = .returned (.bool true) ∧ Below w.heap.size w w' := by
  have a0 := ha.1
  have b0 := hb.1
  have V := Lib.hid (Inv_q a)
  by_cases hz : a % 2305843009213691579 = 0
  · have e : qerr a = 10 := by unfold qerr; rw [if_pos hz]
    have e2 : qinv a = 0 := by unfold qinv; rw [if_pos hz]
    rw [e, e2] at V
    clear e e2
    have B0 := Lib.hid (Below.refl w.heap.size w)
    go_enter Try.func11, Try.ntmps11
    go_wp2_with fail
    refine (live3 _).mono ?_; rintro e w1 ⟨rfl, b⟩; have B1 := Lib.hid (below_on B0.out b); clear b
    go_wp2_with fail
    refine (V.out _).mono ?_; rintro e w2 ⟨rfl, b⟩; have B2 := Lib.hid (below_on B1.out b); clear b
    go_wp2_with fail
    go_ret
    exact ⟨rfl, B2.out⟩
  · have p := qinv_pos a0 hz
    have hb := (qinv_bound a).2
    have hi : qinv a % 2305843009213691579 ≠ 0 := by omega
    haveI : IsU 2305843009213691577 := ⟨by omega, by omega⟩
    have W := Lib.hid (Inv_q (qinv a))
    rw [qerr_ne hi, qinv_inv a0 hz] at W
    have P := Lib.hid (Pow_q a 2305843009213691577)
    rw [← qinv_is hz] at P
    have M1 := Lib.hid (Mul_q b a)
    have M2 := Lib.hid (Mul_q (qmul b a) (qinv a))
    rw [qdiv a0 hz] at M2
    rw [qerr_ne hz] at V
    have hz' : (a % 2305843009213691579 == 0) = false := beq_eq_false_iff_ne.2 hz
    generalize qmul b a = ba at *
    generalize qinv a = i at *
    clear hi hz
    have B0 := Lib.hid (Below.refl w.heap.size w)
    go_enter Try.func11, Try.ntmps11
    go_wp2_with fail
    refine (live3 _).mono ?_; rintro e w1 ⟨rfl, b⟩; have B1 := Lib.hid (below_on B0.out b); clear b
    go_wp2_with fail
    refine (V.out _).mono ?_; rintro e w2 ⟨rfl, b⟩; have B2 := Lib.hid (below_on B1.out b); clear b
    go_wp2_with fail
    refine (W.out _).mono ?_; rintro e w3 ⟨rfl, b⟩; have B3 := Lib.hid (below_on B2.out b); clear b
    go_wp2_with fail
    refine (P.out _).mono ?_; rintro e w4 ⟨rfl, b⟩; have B4 := Lib.hid (below_on B3.out b); clear b
    go_wp2_with fail
    refine (M1.out _).mono ?_; rintro e w5 ⟨rfl, b⟩; have B5 := Lib.hid (below_on B4.out b); clear b
    go_wp2_with fail
    refine (M2.out _).mono ?_; rintro e w6 ⟨rfl, b⟩; have B6 := Lib.hid (below_on B5.out b); clear b
    go_wp2_with fail
    go_ret
    exact ⟨rfl, B6.out⟩
end Go.Proofs.Yteoiippfpfgiiaa

/- The chapter's examples hold. -/
import Derived.Test.YteoiippfpfgiiaaCycE
import Derived.Test.YteoiippfpfgiiaaCycLiveMath
namespace Go.Proofs.Yteoiippfpfgiiaa
open Go.ChangeShapes Go.WideShapes Go.ChangeAt Go.RowKit Gs
set_option linter.unusedVariables false

set_option maxRecDepth 100000 in
set_option maxHeartbeats 4000000 in
theorem live3 (w : World) : Calls Try.prog 12 #[] w fun e w' => e = .returned (.bool true) ∧ Below w.heap.size w w' := by
  haveI : IsU 4 := ⟨by omega, by omega⟩
  haveI : IsU 2 := ⟨by omega, by omega⟩
  haveI : IsU 3 := ⟨by omega, by omega⟩
  haveI : IsU 10 := ⟨by omega, by omega⟩
  haveI : IsU 1152921504606845789 := ⟨by omega, by omega⟩
  haveI : IsU 2305843009213691579 := ⟨by omega, by omega⟩
  haveI : IsU 2305843009213691578 := ⟨by omega, by omega⟩
  haveI : IsU 576460752303422895 := ⟨by omega, by omega⟩
  haveI : IsU 1152921504606845788 := ⟨by omega, by omega⟩
  have I4 := Lib.hid (Inv_q 4)
  rw [live_i4, live_e4] at I4
  have H2 := Lib.hid (InvR_r 2)
  rw [live_h2, live_f2] at H2
  have I0 := Lib.hid (Inv_q 0)
  rw [live_i0, live_e0] at I0
  have HR := Lib.hid (InvR_r 1152921504606845789)
  rw [live_hR, live_fR] at HR
  have N4 := Lib.hid (In_q 4)
  rw [live_in4] at N4
  have N0 := Lib.hid (In_q 0)
  rw [live_in0] at N0
  have NQ := Lib.hid (In_q 2305843009213691579)
  rw [live_inQ] at NQ
  have NM := Lib.hid (In_q 2305843009213691578)
  rw [live_inM] at NM
  have MM := Lib.hid (Mul_q 2305843009213691578 2305843009213691578)
  rw [live_mm] at MM
  have P10 := Lib.hid (Pow_q 2 10)
  rw [live_p10] at P10
  have P00 := Lib.hid (Pow_q 0 0)
  rw [live_p00] at P00
  have MI := Lib.hid (Mul_q 576460752303422895 4)
  rw [live_mi] at MI
  have G3 := Lib.hid (Base_q 3)
  rw [live_b3] at G3
  have BR := Lib.hid (Base_q 1152921504606845789)
  rw [live_bR] at BR
  have AD := Lib.hid (AddR_r 1152921504606845788 2)
  rw [live_add] at AD
  have SU := Lib.hid (SubR_r 1 2)
  rw [live_sub] at SU
  have MU := Lib.hid (MulR_r 1152921504606845788 2)
  rw [live_mul] at MU
  have B0 := Lib.hid (Below.refl w.heap.size w)
  go_enter Try.func12, Try.ntmps12
  go_wp2_with fail
  refine (I4.out _).mono ?_
  rintro e w1 ⟨rfl, b⟩
  have B1 := Lib.hid (below_on B0.out b)
  clear b
  go_wp2_with fail
  refine (H2.out _).mono ?_
  rintro e w2 ⟨rfl, b⟩
  have B2 := Lib.hid (below_on B1.out b)
  clear b
  go_wp2_with fail
  refine (I0.out _).mono ?_
  rintro e w3 ⟨rfl, b⟩
  have B3 := Lib.hid (below_on B2.out b)
  clear b
  go_wp2_with fail
  refine (HR.out _).mono ?_
  rintro e w4 ⟨rfl, b⟩
  have B4 := Lib.hid (below_on B3.out b)
  clear b
  go_wp2_with fail
  refine (N4.out _).mono ?_
  rintro e w5 ⟨rfl, b⟩
  have B5 := Lib.hid (below_on B4.out b)
  clear b
  go_wp2_with fail
  refine (N0.out _).mono ?_
  rintro e w6 ⟨rfl, b⟩
  have B6 := Lib.hid (below_on B5.out b)
  clear b
  go_wp2_with fail
  refine (NQ.out _).mono ?_
  rintro e w7 ⟨rfl, b⟩
  have B7 := Lib.hid (below_on B6.out b)
  clear b
  go_wp2_with fail
  refine (NM.out _).mono ?_
  rintro e w8 ⟨rfl, b⟩
  have B8 := Lib.hid (below_on B7.out b)
  clear b
  go_wp2_with fail
  refine (MM.out _).mono ?_
  rintro e w9 ⟨rfl, b⟩
  have B9 := Lib.hid (below_on B8.out b)
  clear b
  go_wp2_with fail
  refine (P10.out _).mono ?_
  rintro e w10 ⟨rfl, b⟩
  have B10 := Lib.hid (below_on B9.out b)
  clear b
  go_wp2_with fail
  refine (P00.out _).mono ?_
  rintro e w11 ⟨rfl, b⟩
  have B11 := Lib.hid (below_on B10.out b)
  clear b
  go_wp2_with fail
  refine (MI.out _).mono ?_
  rintro e w12 ⟨rfl, b⟩
  have B12 := Lib.hid (below_on B11.out b)
  clear b
  go_wp2_with fail
  refine (G3.out _).mono ?_
  rintro e w13 ⟨rfl, b⟩
  have B13 := Lib.hid (below_on B12.out b)
  clear b
  go_wp2_with fail
  refine (BR.out _).mono ?_
  rintro e w14 ⟨rfl, b⟩
  have B14 := Lib.hid (below_on B13.out b)
  clear b
  go_wp2_with fail
  refine (AD.out _).mono ?_; rintro e w' ⟨rfl, rfl⟩
  go_wp2_with fail
  refine (SU.out _).mono ?_; rintro e w' ⟨rfl, rfl⟩
  go_wp2_with fail
  refine (MU.out _).mono ?_
  rintro e w15 ⟨rfl, b⟩
  have B15 := Lib.hid (below_on B14.out b)
  clear b
  go_wp2_with fail
  go_ret
  exact ⟨rfl, B15.out⟩
end Go.Proofs.Yteoiippfpfgiiaa

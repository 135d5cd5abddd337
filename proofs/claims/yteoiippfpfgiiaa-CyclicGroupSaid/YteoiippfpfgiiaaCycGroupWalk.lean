/- The walk of the law CyclicGroup. -/
import Derived.Test.YteoiippfpfgiiaaCycLive
import Derived.Test.YteoiippfpfgiiaaCycGroupMath
namespace Go.Proofs.Yteoiippfpfgiiaa
open Go.ChangeShapes Go.WideShapes Go.ChangeAt Go.RowKit Gs
set_option linter.unusedVariables false

set_option maxHeartbeats 2000000 in
theorem group_walk (a b c : Int) [ha : IsU a] [hb : IsU b] [hc : IsU c] (w : World) :
    Calls Try.prog 6 #[.int .u64 a, .int .u64 b, .int .u64 c] w fun e w' => e = .returned (.bool true) ∧ Below w.heap.size w w' := by
  have a0 := ha.1
  have FA := Lib.hid (Base_q a)
  have FB := Lib.hid (Base_q b)
  have FC := Lib.hid (Base_q c)
  have NA := Lib.hid (In_q a)
  have hv := qin_base ha.1
  have hy := qin_base hb.1
  haveI uv : IsU (qpow 4 a) := inferInstance
  haveI uy : IsU (qpow 4 b) := inferInstance
  haveI uz : IsU (qpow 4 c) := inferInstance
  generalize qpow 4 a = v at *
  generalize qpow 4 b = y at *
  generalize qpow 4 c = z at *
  have N2 := Lib.hid (In_q y)
  rw [hy] at N2
  cases hA : qin a
  · rw [hA] at NA
    clear hA
    have hX := hv
    clear hv
    have i := qin_inv hX
    have e := qerr_in hX
    have CI := Lib.hid (Inv_q v)
    rw [e] at CI
    have CAB := Lib.hid (Mul_q v y)
    have N1 := Lib.hid (In_q v)
    rw [hX] at N1
    have N3 := Lib.hid (In_q (qmul v y))
    rw [qin_mul hX hy] at N3
    have M1 := Lib.hid (Mul_q y v)
    rw [qmul_comm y] at M1
    have M2 := Lib.hid (Mul_q (qmul v y) z)
    have M3 := Lib.hid (Mul_q y z)
    have M4 := Lib.hid (Mul_q v (qmul y z))
    rw [← qmul_assoc] at M4
    have M5 := Lib.hid (Mul_q v 1)
    rw [qmul_one_in hX] at M5
    have N4 := Lib.hid (In_q (qinv v))
    rw [qin_inv hX] at N4
    have M6 := Lib.hid (Mul_q v (qinv v))
    rw [qmul_inv_in hX] at M6
    clear hX hy i e
    generalize qinv v = i at *
    generalize qmul (qmul v y) z = xyz at *
    generalize qmul v y = xy at *
    generalize qmul y z = yz at *
    have B0 := Lib.hid (Below.refl w.heap.size w)
    go_enter Try.func6, Try.ntmps6
    go_wp2_with fail
    refine (live3 _).mono ?_; rintro e w1 ⟨rfl, b⟩; have B1 := Lib.hid (below_on B0.out b); clear b
    go_wp2_with fail
    refine (FA.out _).mono ?_; rintro e w2 ⟨rfl, b⟩; have B2 := Lib.hid (below_on B1.out b); clear b
    go_wp2_with fail
    refine (FB.out _).mono ?_; rintro e w3 ⟨rfl, b⟩; have B3 := Lib.hid (below_on B2.out b); clear b
    go_wp2_with fail
    refine (FC.out _).mono ?_; rintro e w4 ⟨rfl, b⟩; have B4 := Lib.hid (below_on B3.out b); clear b
    go_wp2_with fail
    refine (NA.out _).mono ?_; rintro e w5 ⟨rfl, b⟩; have B5 := Lib.hid (below_on B4.out b); clear b
    go_wp2_with fail
    refine (CI.out _).mono ?_; rintro e w6 ⟨rfl, b⟩; have B6 := Lib.hid (below_on B5.out b); clear b
    go_wp2_with fail
    refine (CAB.out _).mono ?_; rintro e w7 ⟨rfl, b⟩; have B7 := Lib.hid (below_on B6.out b); clear b
    go_wp2_with fail
    refine (N1.out _).mono ?_; rintro e w8 ⟨rfl, b⟩; have B8 := Lib.hid (below_on B7.out b); clear b
    go_wp2_with fail
    refine (N2.out _).mono ?_; rintro e w9 ⟨rfl, b⟩; have B9 := Lib.hid (below_on B8.out b); clear b
    go_wp2_with fail
    refine (N3.out _).mono ?_; rintro e w10 ⟨rfl, b⟩; have B10 := Lib.hid (below_on B9.out b); clear b
    go_wp2_with fail
    refine (M1.out _).mono ?_; rintro e w11 ⟨rfl, b⟩; have B11 := Lib.hid (below_on B10.out b); clear b
    go_wp2_with fail
    refine (M2.out _).mono ?_; rintro e w12 ⟨rfl, b⟩; have B12 := Lib.hid (below_on B11.out b); clear b
    go_wp2_with fail
    refine (M3.out _).mono ?_; rintro e w13 ⟨rfl, b⟩; have B13 := Lib.hid (below_on B12.out b); clear b
    go_wp2_with fail
    refine (M4.out _).mono ?_; rintro e w14 ⟨rfl, b⟩; have B14 := Lib.hid (below_on B13.out b); clear b
    go_wp2_with fail
    refine (M5.out _).mono ?_; rintro e w15 ⟨rfl, b⟩; have B15 := Lib.hid (below_on B14.out b); clear b
    go_wp2_with fail
    refine (N4.out _).mono ?_; rintro e w16 ⟨rfl, b⟩; have B16 := Lib.hid (below_on B15.out b); clear b
    go_wp2_with fail
    refine (M6.out _).mono ?_; rintro e w17 ⟨rfl, b⟩; have B17 := Lib.hid (below_on B16.out b); clear b
    go_wp2_with fail
    go_ret
    exact ⟨rfl, B17.out⟩
  · rw [hA] at NA
    have hX := hA
    clear hv hA
    have i := qin_inv hX
    have e := qerr_in hX
    have CI := Lib.hid (Inv_q a)
    rw [e] at CI
    have CAB := Lib.hid (Mul_q a y)
    have N1 := Lib.hid (In_q a)
    rw [hX] at N1
    have N3 := Lib.hid (In_q (qmul a y))
    rw [qin_mul hX hy] at N3
    have M1 := Lib.hid (Mul_q y a)
    rw [qmul_comm y] at M1
    have M2 := Lib.hid (Mul_q (qmul a y) z)
    have M3 := Lib.hid (Mul_q y z)
    have M4 := Lib.hid (Mul_q a (qmul y z))
    rw [← qmul_assoc] at M4
    have M5 := Lib.hid (Mul_q a 1)
    rw [qmul_one_in hX] at M5
    have N4 := Lib.hid (In_q (qinv a))
    rw [qin_inv hX] at N4
    have M6 := Lib.hid (Mul_q a (qinv a))
    rw [qmul_inv_in hX] at M6
    clear hX hy i e
    generalize qinv a = i at *
    generalize qmul (qmul a y) z = xyz at *
    generalize qmul a y = xy at *
    generalize qmul y z = yz at *
    have B0 := Lib.hid (Below.refl w.heap.size w)
    go_enter Try.func6, Try.ntmps6
    go_wp2_with fail
    refine (live3 _).mono ?_; rintro e w1 ⟨rfl, b⟩; have B1 := Lib.hid (below_on B0.out b); clear b
    go_wp2_with fail
    refine (FA.out _).mono ?_; rintro e w2 ⟨rfl, b⟩; have B2 := Lib.hid (below_on B1.out b); clear b
    go_wp2_with fail
    refine (FB.out _).mono ?_; rintro e w3 ⟨rfl, b⟩; have B3 := Lib.hid (below_on B2.out b); clear b
    go_wp2_with fail
    refine (FC.out _).mono ?_; rintro e w4 ⟨rfl, b⟩; have B4 := Lib.hid (below_on B3.out b); clear b
    go_wp2_with fail
    refine (NA.out _).mono ?_; rintro e w5 ⟨rfl, b⟩; have B5 := Lib.hid (below_on B4.out b); clear b
    go_wp2_with fail
    refine (CI.out _).mono ?_; rintro e w6 ⟨rfl, b⟩; have B6 := Lib.hid (below_on B5.out b); clear b
    go_wp2_with fail
    refine (CAB.out _).mono ?_; rintro e w7 ⟨rfl, b⟩; have B7 := Lib.hid (below_on B6.out b); clear b
    go_wp2_with fail
    refine (N1.out _).mono ?_; rintro e w8 ⟨rfl, b⟩; have B8 := Lib.hid (below_on B7.out b); clear b
    go_wp2_with fail
    refine (N2.out _).mono ?_; rintro e w9 ⟨rfl, b⟩; have B9 := Lib.hid (below_on B8.out b); clear b
    go_wp2_with fail
    refine (N3.out _).mono ?_; rintro e w10 ⟨rfl, b⟩; have B10 := Lib.hid (below_on B9.out b); clear b
    go_wp2_with fail
    refine (M1.out _).mono ?_; rintro e w11 ⟨rfl, b⟩; have B11 := Lib.hid (below_on B10.out b); clear b
    go_wp2_with fail
    refine (M2.out _).mono ?_; rintro e w12 ⟨rfl, b⟩; have B12 := Lib.hid (below_on B11.out b); clear b
    go_wp2_with fail
    refine (M3.out _).mono ?_; rintro e w13 ⟨rfl, b⟩; have B13 := Lib.hid (below_on B12.out b); clear b
    go_wp2_with fail
    refine (M4.out _).mono ?_; rintro e w14 ⟨rfl, b⟩; have B14 := Lib.hid (below_on B13.out b); clear b
    go_wp2_with fail
    refine (M5.out _).mono ?_; rintro e w15 ⟨rfl, b⟩; have B15 := Lib.hid (below_on B14.out b); clear b
    go_wp2_with fail
    refine (N4.out _).mono ?_; rintro e w16 ⟨rfl, b⟩; have B16 := Lib.hid (below_on B15.out b); clear b
    go_wp2_with fail
    refine (M6.out _).mono ?_; rintro e w17 ⟨rfl, b⟩; have B17 := Lib.hid (below_on B16.out b); clear b
    go_wp2_with fail
    go_ret
    exact ⟨rfl, B17.out⟩
end Go.Proofs.Yteoiippfpfgiiaa

/- The walk of the law CyclicOrder. -/
import Derived.Test.YteoiippfpfgiiaaCycLive
import Derived.Test.YteoiippfpfgiiaaCycGroupMath
namespace Go.Proofs.Yteoiippfpfgiiaa
open Go.ChangeShapes Go.WideShapes Go.ChangeAt Go.RowKit Gs
set_option linter.unusedVariables false

set_option maxHeartbeats 2000000 in
theorem order_walk (m n : Int) [hm : IsU m] [hn : IsU n] (w : World) :
    Calls Try.prog 7 #[.int .u64 m, .int .u64 n] w fun e w' => e = .returned (.bool true) ∧ Below w.heap.size w w' := by
  have m0 := hm.1
  have n0 := hn.1
  have FM := Lib.hid (Base_q m)
  have FN := Lib.hid (Base_q n)
  have S := Lib.hid (SubR_r m n)
  have NA := Lib.hid (In_q (qpow 4 m))
  rw [qin_base m0] at NA
  have AD := Lib.hid (AddR_r m n)
  have BA := Lib.hid (Base_q (radd m n))
  rw [base_add m0 n0] at BA
  have MA := Lib.hid (Mul_q (qpow 4 m) (qpow 4 n))
  have MR := Lib.hid (MulR_r m n)
  have BM := Lib.hid (Base_q (rmul m n))
  rw [base_mul m0 n0] at BM
  have PM := Lib.hid (Pow_q (qpow 4 m) n)
  have AZ := Lib.hid (AddR_r m 0)
  have BZ := Lib.hid (Base_q (radd m 0))
  rw [base_zero m0] at BZ
  have hs := base_eq m0 n0
  have hs : (qpow 4 m == qpow 4 n) = (rsub m n == 0) := by
    by_cases h : rsub m n = 0
    · rw [beq_iff_eq.2 h, beq_iff_eq.2 (hs.2 h)]
    · rw [beq_eq_false_iff_ne.2 h, beq_eq_false_iff_ne.2 (fun k => h (hs.1 k))]
  generalize qpow (qpow 4 m) n = p at *
  generalize qmul (qpow 4 m) (qpow 4 n) = q at *
  generalize qpow 4 m = x at *
  generalize qpow 4 n = y at *
  generalize rsub m n = s at *
  generalize radd m n = r at *
  generalize radd m 0 = r0 at *
  generalize rmul m n = r1 at *
  cases hb : (s == 0)
  · rw [hb] at hs
    have B0 := Lib.hid (Below.refl w.heap.size w)
    go_enter Try.func7, Try.ntmps7
    go_wp2_with fail
    refine (live3 _).mono ?_; rintro e w1 ⟨rfl, b⟩; have B1 := Lib.hid (below_on B0.out b); clear b
    go_wp2_with fail
    refine (FM.out _).mono ?_; rintro e w2 ⟨rfl, b⟩; have B2 := Lib.hid (below_on B1.out b); clear b
    go_wp2_with fail
    refine (FN.out _).mono ?_; rintro e w3 ⟨rfl, b⟩; have B3 := Lib.hid (below_on B2.out b); clear b
    go_wp2_with fail
    refine (S.out _).mono ?_; rintro e w' ⟨rfl, rfl⟩
    go_wp2_with fail
    refine (NA.out _).mono ?_; rintro e w4 ⟨rfl, b⟩; have B4 := Lib.hid (below_on B3.out b); clear b
    go_wp2_with fail
    refine (AD.out _).mono ?_; rintro e w' ⟨rfl, rfl⟩
    go_wp2_with fail
    refine (BA.out _).mono ?_; rintro e w5 ⟨rfl, b⟩; have B5 := Lib.hid (below_on B4.out b); clear b
    go_wp2_with fail
    refine (MA.out _).mono ?_; rintro e w6 ⟨rfl, b⟩; have B6 := Lib.hid (below_on B5.out b); clear b
    go_wp2_with fail
    refine (MR.out _).mono ?_; rintro e w7 ⟨rfl, b⟩; have B7 := Lib.hid (below_on B6.out b); clear b
    go_wp2_with fail
    refine (BM.out _).mono ?_; rintro e w8 ⟨rfl, b⟩; have B8 := Lib.hid (below_on B7.out b); clear b
    go_wp2_with fail
    refine (PM.out _).mono ?_; rintro e w9 ⟨rfl, b⟩; have B9 := Lib.hid (below_on B8.out b); clear b
    go_wp2_with fail
    refine (AZ.out _).mono ?_; rintro e w' ⟨rfl, rfl⟩
    go_wp2_with fail
    refine (BZ.out _).mono ?_; rintro e w10 ⟨rfl, b⟩; have B10 := Lib.hid (below_on B9.out b); clear b
    go_wp2_with fail
    go_ret
    exact ⟨rfl, B10.out⟩
  · rw [hb] at hs
    have B0 := Lib.hid (Below.refl w.heap.size w)
    go_enter Try.func7, Try.ntmps7
    go_wp2_with fail
    refine (live3 _).mono ?_; rintro e w1 ⟨rfl, b⟩; have B1 := Lib.hid (below_on B0.out b); clear b
    go_wp2_with fail
    refine (FM.out _).mono ?_; rintro e w2 ⟨rfl, b⟩; have B2 := Lib.hid (below_on B1.out b); clear b
    go_wp2_with fail
    refine (FN.out _).mono ?_; rintro e w3 ⟨rfl, b⟩; have B3 := Lib.hid (below_on B2.out b); clear b
    go_wp2_with fail
    refine (S.out _).mono ?_; rintro e w' ⟨rfl, rfl⟩
    go_wp2_with fail
    refine (NA.out _).mono ?_; rintro e w4 ⟨rfl, b⟩; have B4 := Lib.hid (below_on B3.out b); clear b
    go_wp2_with fail
    refine (AD.out _).mono ?_; rintro e w' ⟨rfl, rfl⟩
    go_wp2_with fail
    refine (BA.out _).mono ?_; rintro e w5 ⟨rfl, b⟩; have B5 := Lib.hid (below_on B4.out b); clear b
    go_wp2_with fail
    refine (MA.out _).mono ?_; rintro e w6 ⟨rfl, b⟩; have B6 := Lib.hid (below_on B5.out b); clear b
    go_wp2_with fail
    refine (MR.out _).mono ?_; rintro e w7 ⟨rfl, b⟩; have B7 := Lib.hid (below_on B6.out b); clear b
    go_wp2_with fail
    refine (BM.out _).mono ?_; rintro e w8 ⟨rfl, b⟩; have B8 := Lib.hid (below_on B7.out b); clear b
    go_wp2_with fail
    refine (PM.out _).mono ?_; rintro e w9 ⟨rfl, b⟩; have B9 := Lib.hid (below_on B8.out b); clear b
    go_wp2_with fail
    refine (AZ.out _).mono ?_; rintro e w' ⟨rfl, rfl⟩
    go_wp2_with fail
    refine (BZ.out _).mono ?_; rintro e w10 ⟨rfl, b⟩; have B10 := Lib.hid (below_on B9.out b); clear b
    go_wp2_with fail
    go_ret
    exact ⟨rfl, B10.out⟩
end Go.Proofs.Yteoiippfpfgiiaa

/- The walk of the law FieldDivides. -/
import Derived.Test.YthdcimbdahjjbaaFieldD
namespace Go.Proofs.Ythdcimbdahjjbaa
open Go.ChangeShapes Go.WideShapes Go.ChangeAt Go.RowKit Gs
set_option linter.unusedVariables false

set_option maxHeartbeats 2000000 in
theorem divides_walk (a b : Int) [IsU a] [IsU b] (w : World) :
    Calls Try.prog 7 #[.int .u64 a, .int .u64 b] w fun e w' => e = .returned (.bool true) ∧ Below w.heap.size w w' := by
  have b0 : 0 ≤ a := IsU.lo
  have b1 : 0 ≤ b := IsU.lo
  have hzero := fmul_eq_zero a b
  by_cases hz : fred a = 0 <;> by_cases hy : fred b = 0
  · have H1 := Lib.hid (Inv_zero a IsU.lo IsU.hi hz)
    have H2 := Lib.hid (Inv_zero b IsU.lo IsU.hi hy)
    have g : (fmul a b == 0) = true := beq_iff_eq.2 (hzero.2 (.inl hz))
    have ha : (a % 2305843009213693951 == 0) = true := beq_iff_eq.2 hz
    have hb : (b % 2305843009213693951 == 0) = true := beq_iff_eq.2 hy
    have ha' : (a % 2305843009213693951 != 0) = false := by rw [bne, ha]; rfl
    clear hz hy hzero
    go_enter Try.func7, Try.ntmps7
    go_wp2_with fail
    refine (live_any _).mono ?_
    rintro e w1 ⟨rfl, hb⟩
    have HB := Lib.hid hb
    clear hb
    go_wp2_with fail
    refine (H1.out _).mono ?_; rintro e w' ⟨rfl, rfl⟩
    go_wp2_with fail
    refine (H2.out _).mono ?_; rintro e w' ⟨rfl, rfl⟩
    go_wp2_with fail
    refine (Mul_i _ _ _).mono ?_; rintro e w' ⟨rfl, rfl⟩
    go_wp2_with fail
    go_ret
    exact ⟨rfl, HB.out⟩
  · have H1 := Lib.hid (Inv_zero a IsU.lo IsU.hi hz)
    have H2 := Lib.hid (Inv_ok b IsU.lo IsU.hi hy)
    have g : (fmul a b == 0) = true := beq_iff_eq.2 (hzero.2 (.inl hz))
    have ha : (a % 2305843009213693951 == 0) = true := beq_iff_eq.2 hz
    have hb : (b % 2305843009213693951 == 0) = false := beq_eq_false_iff_ne.2 hy
    have ha' : (a % 2305843009213693951 != 0) = false := by rw [bne, ha]; rfl
    clear hz hy hzero
    go_enter Try.func7, Try.ntmps7
    go_wp2_with fail
    refine (live_any _).mono ?_
    rintro e w1 ⟨rfl, hb⟩
    have HB := Lib.hid hb
    clear hb
    go_wp2_with fail
    refine (H1.out _).mono ?_; rintro e w' ⟨rfl, rfl⟩
    go_wp2_with fail
    refine (H2.out _).mono ?_; rintro e w' ⟨rfl, rfl⟩
    go_wp2_with fail
    refine (Mul_i _ _ _).mono ?_; rintro e w' ⟨rfl, rfl⟩
    go_wp2_with fail
    go_ret
    exact ⟨rfl, HB.out⟩
  · have H1 := Lib.hid (Inv_ok a IsU.lo IsU.hi hz)
    have H2 := Lib.hid (Inv_zero b IsU.lo IsU.hi hy)
    have g : (fmul a b == 0) = true := beq_iff_eq.2 (hzero.2 (.inr hy))
    have ha : (a % 2305843009213693951 == 0) = false := beq_eq_false_iff_ne.2 hz
    have hb : (b % 2305843009213693951 == 0) = true := beq_iff_eq.2 hy
    have ha' : (a % 2305843009213693951 != 0) = true := by rw [bne, ha]; rfl
    clear hz hy hzero
    go_enter Try.func7, Try.ntmps7
    go_wp2_with fail
    refine (live_any _).mono ?_
    rintro e w1 ⟨rfl, hb⟩
    have HB := Lib.hid hb
    clear hb
    go_wp2_with fail
    refine (H1.out _).mono ?_; rintro e w' ⟨rfl, rfl⟩
    go_wp2_with fail
    refine (H2.out _).mono ?_; rintro e w' ⟨rfl, rfl⟩
    go_wp2_with fail
    refine (Mul_i _ _ _).mono ?_; rintro e w' ⟨rfl, rfl⟩
    go_wp2_with fail
    go_ret
    exact ⟨rfl, HB.out⟩
  · have H1 := Lib.hid (Inv_ok a IsU.lo IsU.hi hz)
    have H2 := Lib.hid (Inv_ok b IsU.lo IsU.hi hy)
    have gne : fmul a b ≠ 0 := fun h => (hzero.1 h).elim hz hy
    have g : (fmul a b == 0) = false := beq_eq_false_iff_ne.2 gne
    have ha : (a % 2305843009213693951 == 0) = false := beq_eq_false_iff_ne.2 hz
    have hb : (b % 2305843009213693951 == 0) = false := beq_eq_false_iff_ne.2 hy
    have ha' : (a % 2305843009213693951 != 0) = true := by rw [bne, ha]; rfl
    have H3 := Lib.hid (Inv_ok (fmul a b) IsU.lo IsU.hi (by rw [red_fmul]; exact gne))
    have H4 := Lib.hid (Inv_ok (finv a) IsU.lo IsU.hi (finv_ne hz))
    have f1 : (fmul a (finv a) == 1) = true := beq_iff_eq.2 (fmul_inv hz)
    have f2 : (finv (finv a) == a % 2305843009213693951) = true := beq_iff_eq.2 (finv_finv hz)
    have f3 : (finv (fmul a b) == fmul (finv a) (finv b)) = true := beq_iff_eq.2 (finv_mul hz hy)
    clear gne
    clear hz hy hzero
    go_enter Try.func7, Try.ntmps7
    go_wp2_with fail
    refine (live_any _).mono ?_
    rintro e w1 ⟨rfl, hb⟩
    have HB := Lib.hid hb
    clear hb
    go_wp2_with fail
    refine (H1.out _).mono ?_; rintro e w' ⟨rfl, rfl⟩
    go_wp2_with fail
    refine (H2.out _).mono ?_; rintro e w' ⟨rfl, rfl⟩
    go_wp2_with fail
    refine (Mul_i _ _ _).mono ?_; rintro e w' ⟨rfl, rfl⟩
    go_wp2_with fail
    refine (Mul_i _ _ _).mono ?_; rintro e w' ⟨rfl, rfl⟩
    go_wp2_with fail
    refine (H3.out _).mono ?_; rintro e w' ⟨rfl, rfl⟩
    go_wp2_with fail
    refine (H4.out _).mono ?_; rintro e w' ⟨rfl, rfl⟩
    go_wp2_with fail
    refine (Mul_i _ _ _).mono ?_; rintro e w' ⟨rfl, rfl⟩
    go_wp2_with fail
    refine (Mul_i _ _ _).mono ?_; rintro e w' ⟨rfl, rfl⟩
    go_wp2_with fail
    go_ret
    exact ⟨rfl, HB.out⟩
end Go.Proofs.Ythdcimbdahjjbaa

/- The walk of the law FieldPowers. -/
import Derived.Test.YthdcimbdahjjbaaFieldD
namespace Go.Proofs.Ythdcimbdahjjbaa
open Go.ChangeShapes Go.WideShapes Go.ChangeAt Go.RowKit Gs
set_option linter.unusedVariables false

set_option maxHeartbeats 2000000 in
theorem powers_walk (a b n m : Int) [IsU a] [IsU b] [IsU n] [IsU m] (w : World) :
    Calls Try.prog 8 #[.int .u64 a, .int .u64 b, .int .u64 n, .int .u64 m] w fun e w' => e = .returned (.bool true) ∧ Below w.heap.size w w' := by
  have a0 : 0 ≤ a := IsU.lo
  have n0 : 0 ≤ n := IsU.lo
  have m0 : 0 ≤ m := IsU.lo
  have n1 : n < 18446744073709551616 := IsU.hi
  have m1 : m < 18446744073709551616 := IsU.hi
  by_cases hov : n + m < 18446744073709551616
  · have inm : IsU (n + m) := ⟨by omega, hov⟩
    have e1 : (n + m).toNat = n.toNat + m.toNat := by omega
    have P1 := Lib.hid (Pow_n (a := a) (n := n) _ rfl)
    have P2 := Lib.hid (Pow_n (a := a) (n := m) _ rfl)
    have P3 := Lib.hid (Pow_n (a := a) (n := n + m) _ e1)
    have P4 := Lib.hid (Pow_n (a := fmul a b) (n := n) _ rfl)
    have P5 := Lib.hid (Pow_n (a := b) (n := n) _ rfl)
    have P6 := Lib.hid (Pow_n (a := a) (n := 0) 0 rfl)
    have P7 := Lib.hid (Pow_n (a := a) (n := 1) 1 rfl)
    clear e1
    have f1 : (fmul (fpow a n.toNat) (fpow a m.toNat) == fpow a (n.toNat + m.toNat)) = true := beq_iff_eq.2 (fpow_add a _ _)
    have f2 : (fpow (fmul a b) n.toNat == fmul (fpow a n.toNat) (fpow b n.toNat)) = true := beq_iff_eq.2 (fpow_mul a b _)
    have f3 : (fpow a 0 == 1) = true := beq_iff_eq.2 (fpow_zero a)
    have f4 : (fpow a 1 == a % 2305843009213693951) = true := beq_iff_eq.2 (fpow_one a)
    generalize n.toNat = N at *
    generalize m.toNat = M at *
    by_cases hz : fred a = 0
    · have H1 := Lib.hid (Inv_zero a IsU.lo IsU.hi hz)
      have ha : (a % 2305843009213693951 == 0) = true := beq_iff_eq.2 hz
      have ha' : (a % 2305843009213693951 != 0) = false := by rw [bne, ha]; rfl
      clear hz
      go_enter Try.func8, Try.ntmps8
      go_wp2_with fail
      refine (live_any _).mono ?_
      rintro e w1 ⟨rfl, hb⟩
      have HB := Lib.hid hb
      clear hb
      go_wp2_with fail
      refine (H1.out _).mono ?_; rintro e w' ⟨rfl, rfl⟩
      go_wp2_with fail
      refine (P1.out _).mono ?_; rintro e w' ⟨rfl, rfl⟩
      go_wp2_with fail
      refine (P2.out _).mono ?_; rintro e w' ⟨rfl, rfl⟩
      go_wp2_with fail
      refine (Mul_i _ _ _).mono ?_; rintro e w' ⟨rfl, rfl⟩
      go_wp2_with fail
      refine (P3.out _).mono ?_; rintro e w' ⟨rfl, rfl⟩
      go_wp2_with fail
      refine (Mul_i _ _ _).mono ?_; rintro e w' ⟨rfl, rfl⟩
      go_wp2_with fail
      refine (P4.out _).mono ?_; rintro e w' ⟨rfl, rfl⟩
      go_wp2_with fail
      refine (P1.out _).mono ?_; rintro e w' ⟨rfl, rfl⟩
      go_wp2_with fail
      refine (P5.out _).mono ?_; rintro e w' ⟨rfl, rfl⟩
      go_wp2_with fail
      refine (Mul_i _ _ _).mono ?_; rintro e w' ⟨rfl, rfl⟩
      go_wp2_with fail
      refine (P6.out _).mono ?_; rintro e w' ⟨rfl, rfl⟩
      go_wp2_with fail
      refine (P7.out _).mono ?_; rintro e w' ⟨rfl, rfl⟩
      go_wp2_with fail
      go_ret
      exact ⟨rfl, HB.out⟩
    · have H1 := Lib.hid (Inv_ok a IsU.lo IsU.hi hz)
      have ha : (a % 2305843009213693951 == 0) = false := beq_eq_false_iff_ne.2 hz
      have ha' : (a % 2305843009213693951 != 0) = true := by rw [bne, ha]; rfl
      have f5 : (fpow a expF == 1) = true := beq_iff_eq.2 (fermat hz)
      have f5' : (fpow a expF != 1) = false := by rw [bne, f5]; rfl
      clear hz
      go_enter Try.func8, Try.ntmps8
      go_wp2_with fail
      refine (live_any _).mono ?_
      rintro e w1 ⟨rfl, hb⟩
      have HB := Lib.hid hb
      clear hb
      go_wp2_with fail
      refine (H1.out _).mono ?_; rintro e w' ⟨rfl, rfl⟩
      go_wp2_with fail
      refine (Pow_F _ _).mono ?_; rintro e w' ⟨rfl, rfl⟩
      go_wp2_with fail
      refine (Pow_I _ _).mono ?_; rintro e w' ⟨rfl, rfl⟩
      go_wp2_with fail
      refine (P1.out _).mono ?_; rintro e w' ⟨rfl, rfl⟩
      go_wp2_with fail
      refine (P2.out _).mono ?_; rintro e w' ⟨rfl, rfl⟩
      go_wp2_with fail
      refine (Mul_i _ _ _).mono ?_; rintro e w' ⟨rfl, rfl⟩
      go_wp2_with fail
      refine (P3.out _).mono ?_; rintro e w' ⟨rfl, rfl⟩
      go_wp2_with fail
      refine (Mul_i _ _ _).mono ?_; rintro e w' ⟨rfl, rfl⟩
      go_wp2_with fail
      refine (P4.out _).mono ?_; rintro e w' ⟨rfl, rfl⟩
      go_wp2_with fail
      refine (P1.out _).mono ?_; rintro e w' ⟨rfl, rfl⟩
      go_wp2_with fail
      refine (P5.out _).mono ?_; rintro e w' ⟨rfl, rfl⟩
      go_wp2_with fail
      refine (Mul_i _ _ _).mono ?_; rintro e w' ⟨rfl, rfl⟩
      go_wp2_with fail
      refine (P6.out _).mono ?_; rintro e w' ⟨rfl, rfl⟩
      go_wp2_with fail
      refine (P7.out _).mono ?_; rintro e w' ⟨rfl, rfl⟩
      go_wp2_with fail
      go_ret
      exact ⟨rfl, HB.out⟩
  · have e1 : IntKind.u64.wrap (n + m) = n + m - 18446744073709551616 := by rw [IntKind.wrap_u64]; omega
    go_enter Try.func8, Try.ntmps8
    go_wp2_with fail
    refine (live_any _).mono ?_
    rintro e w1 ⟨rfl, hb⟩
    have HB := Lib.hid hb
    clear hb
    go_wp2_with fail
    go_ret
    exact ⟨rfl, HB.out⟩
end Go.Proofs.Ythdcimbdahjjbaa

/- Contracts of package cyclic's numbers of a modulus: rest, sum, difference, product. -/
import Derived.Test.YtippfhlljlfcnaaHashS
import Derived.Test.YtippfhlljlfcnaaCycMath
namespace Go.Proofs.Ytippfhlljlfcnaa
open Go.ChangeShapes Go.WideShapes Go.ChangeAt Go.RowKit Gs
set_option linter.unusedVariables false

theorem Dr.below {w w' : World} (h : Dr w w') (B : Nat) : Below B w w' := by
  obtain ⟨n, rfl⟩ := h
  exact below_drewN (Below.refl B w) n
theorem below_on {w0 w w' : World} (h : Below w0.heap.size w0 w) (k : Below w.heap.size w w') : Below w0.heap.size w0 w' := h.trans (k.mono h.size)

theorem IsU.mod (x m : Int) (m0 : 0 < m) (m1 : m < 18446744073709551616) : IsU (x % m) := ⟨Int.emod_nonneg _ (by omega), by have := Int.emod_lt_of_pos x m0; omega⟩

theorem rest_any (m a : Int) (m0 : 0 < m) (a0 : 0 ≤ a) (a1 : a < 18446744073709551616) (w : World) :
    Calls Try.prog 58 #[.int .u64 m, .int .u64 a] w fun e w' => e = .returned (.int .u64 (a % m)) ∧ w = w' := by
  have hz : (m == 0) = false := beq_eq_false_iff_ne.2 (by omega)
  go_enter Try.func58, Try.ntmps58
  go_wp2_with fail
  go_ret
  exact ⟨rfl, rfl⟩

theorem sum_any (m a b : Int) (m0 : 0 < m) (m1 : m < 4611686018427387904) (a0 : 0 ≤ a) (a1 : a < 18446744073709551616) (b0 : 0 ≤ b) (b1 : b < 18446744073709551616) (w : World) :
    Calls Try.prog 45 #[.int .u64 m, .int .u64 a, .int .u64 b] w fun e w' => e = .returned (.int .u64 ((a + b) % m)) ∧ w = w' := by
  have ha := IsU.mod a m m0 (by omega)
  have la := Int.emod_lt_of_pos a m0
  have lb := Int.emod_lt_of_pos b m0
  have na := Int.emod_nonneg a (show m ≠ 0 by omega)
  have nb := Int.emod_nonneg b (show m ≠ 0 by omega)
  have HE := Lib.hid (show (a % m + b % m) % m = (a + b) % m from (Int.add_emod a b m).symm)
  have RA := Lib.hid (rest_any m a m0 a0 a1)
  have RB := Lib.hid (rest_any m b m0 b0 b1)
  have RC := Lib.hid (rest_any m (a % m + b % m) m0 (by omega) (by omega))
  rw [HE.out] at RC
  have e2 : IntKind.u64.wrap (a % m + b % m) = a % m + b % m := IntWalk.u64_in _ (by omega)
  generalize a % m = x at *
  generalize b % m = y at *
  generalize (a + b) % m = z at *
  clear HE
  go_enter Try.func45, Try.ntmps45
  go_wp2_with fail
  refine (RA.out _).mono ?_; rintro e w' ⟨rfl, rfl⟩
  go_wp2_with fail
  refine (RB.out _).mono ?_; rintro e w' ⟨rfl, rfl⟩
  go_wp2_with fail
  refine (RC.out _).mono ?_; rintro e w' ⟨rfl, rfl⟩
  go_wp2_with fail
  go_ret
  exact ⟨rfl, rfl⟩

theorem difference_any (m a b : Int) (m0 : 0 < m) (m1 : m < 4611686018427387904) (a0 : 0 ≤ a) (a1 : a < 18446744073709551616) (b0 : 0 ≤ b) (b1 : b < 18446744073709551616) (w : World) :
    Calls Try.prog 49 #[.int .u64 m, .int .u64 a, .int .u64 b] w fun e w' => e = .returned (.int .u64 ((a - b) % m)) ∧ w = w' := by
  have la := Int.emod_lt_of_pos a m0
  have lb := Int.emod_lt_of_pos b m0
  have na := Int.emod_nonneg a (show m ≠ 0 by omega)
  have nb := Int.emod_nonneg b (show m ≠ 0 by omega)
  have HE := Lib.hid (show (a % m + m - b % m) % m = (a - b) % m from by
    rw [show a % m + m - b % m = a % m - b % m + m by omega, Int.add_emod_right, ← Int.sub_emod])
  have RA := Lib.hid (rest_any m a m0 a0 a1)
  have RB := Lib.hid (rest_any m b m0 b0 b1)
  have RC := Lib.hid (rest_any m (a % m + m - b % m) m0 (by omega) (by omega))
  rw [HE.out] at RC
  have e2 : IntKind.u64.wrap (a % m + m) = a % m + m := IntWalk.u64_in _ (by omega)
  have e3 : IntKind.u64.wrap (a % m + m - b % m) = a % m + m - b % m := IntWalk.u64_in _ (by omega)
  generalize a % m = x at *
  generalize b % m = y at *
  generalize (a - b) % m = z at *
  clear HE
  go_enter Try.func49, Try.ntmps49
  go_wp2_with fail
  refine (RA.out _).mono ?_; rintro e w' ⟨rfl, rfl⟩
  go_wp2_with fail
  refine (RB.out _).mono ?_; rintro e w' ⟨rfl, rfl⟩
  go_wp2_with fail
  refine (RC.out _).mono ?_; rintro e w' ⟨rfl, rfl⟩
  go_wp2_with fail
  go_ret
  exact ⟨rfl, rfl⟩

theorem product_any (m a b : Int) (m0 : 0 < m) (m1 : m < 18446744073709551616) (a0 : 0 ≤ a) (a1 : a < 18446744073709551616) (b0 : 0 ≤ b) (b1 : b < 18446744073709551616) (w : World) :
    Calls Try.prog 46 #[.int .u64 m, .int .u64 a, .int .u64 b] w fun e w' => e = .returned (.int .u64 (a * b % m)) ∧ Dr w w' := by
  have p0 := Int.mul_nonneg a0 b0
  have p1 : a * b ≤ 18446744073709551615 * 18446744073709551615 := Int.mul_le_mul (by omega) (by omega) b0 (by omega)
  have M := Lib.hid (Mul64_any a b a0 a1 b0 b1)
  generalize a * b = p at *
  have hR := Rem64_any (p / 18446744073709551616) (p % 18446744073709551616) m (by omega) (by omega) (by omega) (by omega) m0 m1
  rw [show p / 18446744073709551616 * 18446744073709551616 + p % 18446744073709551616 = p by omega] at hR
  have R := Lib.hid hR
  clear hR
  go_enter Try.func46, Try.ntmps46
  go_wp2_with fail
  refine (M.out _).mono ?_; rintro e w' ⟨rfl, rfl⟩
  go_wp2_with fail
  refine (R.out _).mono ?_
  rintro e w' ⟨rfl, hd⟩
  have D := Lib.hid hd
  clear hd
  go_wp2_with fail
  go_ret
  exact ⟨rfl, D.out⟩
end Go.Proofs.Ytippfhlljlfcnaa

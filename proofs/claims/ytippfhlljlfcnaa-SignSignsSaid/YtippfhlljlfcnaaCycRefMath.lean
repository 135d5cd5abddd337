/- Plain facts: a product by doubling, a power by squaring, the highest bit first. -/
import Derived.Test.YtippfhlljlfcnaaCycPlain
namespace Gs
set_option linter.unusedVariables false

theorem half_up (b : Int) (k : Nat) : b / 2 ^ k = b / 2 ^ (k + 1) * 2 + b / 2 ^ k % 2 := by
  have e : b / 2 ^ (k + 1) = b / 2 ^ k / 2 := by rw [Int.pow_succ, Int.ediv_ediv_of_nonneg (Int.le_of_lt (Int.pow_pos (by omega)))]
  rw [e]; omega
theorem two64 : (2 : Int) ^ 64 = 18446744073709551616 := by decide
theorem top_zero {b : Int} (b0 : 0 ≤ b) (b1 : b < 18446744073709551616) : b / 2 ^ 64 = 0 := Int.ediv_eq_zero_of_lt b0 (by rw [two64]; exact b1)
theorem low_all (b : Int) : b / 2 ^ 0 = b := by rw [Int.pow_zero, Int.ediv_one]
theorem mul_two_mod (z m : Int) : (z % m + z % m) % m = z * 2 % m := by rw [← Int.add_emod, show z + z = z * 2 by omega]
theorem times_even {a b m : Int} {k : Nat} (h : b / 2 ^ k % 2 = 0) : (a * (b / 2 ^ (k + 1)) % m + a * (b / 2 ^ (k + 1)) % m) % m = a * (b / 2 ^ k) % m := by
  rw [mul_two_mod, Int.mul_assoc]
  have := half_up b k
  rw [h, Int.add_zero] at this
  rw [← this]
theorem times_odd {a b m : Int} {k : Nat} (h : b / 2 ^ k % 2 = 1) : ((a * (b / 2 ^ (k + 1)) % m + a * (b / 2 ^ (k + 1)) % m) % m + a) % m = a * (b / 2 ^ k) % m := by
  rw [mul_two_mod, Int.emod_add_emod, Int.mul_assoc]
  have := half_up b k
  rw [h] at this
  rw [this, Int.mul_add, Int.mul_one]
theorem times_all (a b m : Int) : a % m * (b % m) % m = a * b % m := (Int.mul_emod a b m).symm

theorem half_nat (n k : Nat) : n / 2 ^ k = n / 2 ^ (k + 1) + n / 2 ^ (k + 1) + n / 2 ^ k % 2 := by
  have e : n / 2 ^ (k + 1) = n / 2 ^ k / 2 := by rw [Nat.pow_succ, Nat.div_div_eq_div_mul]
  rw [e]; omega
theorem power_even {a m : Int} {n k : Nat} (h : n / 2 ^ k % 2 = 0) : mpow m a (n / 2 ^ (k + 1)) * mpow m a (n / 2 ^ (k + 1)) % m = mpow m a (n / 2 ^ k) := by
  unfold mpow
  have e : n / 2 ^ k = n / 2 ^ (k + 1) + n / 2 ^ (k + 1) := by have := half_nat n k; omega
  rw [← Int.mul_emod, ← Int.pow_add, e]
theorem power_odd {a m : Int} {n k : Nat} (h : n / 2 ^ k % 2 = 1) : mpow m a (n / 2 ^ (k + 1)) * mpow m a (n / 2 ^ (k + 1)) % m * a % m = mpow m a (n / 2 ^ k) := by
  unfold mpow
  have e : n / 2 ^ k = n / 2 ^ (k + 1) + n / 2 ^ (k + 1) + 1 := by have := half_nat n k; omega
  rw [← Int.mul_emod, ← Int.pow_add, e, Int.mul_emod, Int.emod_emod, ← Int.mul_emod, Int.pow_succ]
theorem bit_toNat (n : Int) (n0 : 0 ≤ n) (k : Nat) : n / 2 ^ k % 2 = ((n.toNat / 2 ^ k % 2 : Nat) : Int) := by
  obtain ⟨m, rfl⟩ := Int.eq_ofNat_of_zero_le n0
  push_cast
  rfl
end Gs

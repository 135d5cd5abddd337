/- Plain facts: the bits of a number, the lowest first, and powers by squaring. -/
import Derived.Test.YtippfhlljlfcnaaCycMath
namespace Gs
set_option linter.unusedVariables false

/-- What bits are as a number, the lowest first. -/
def bval : List Bool → Nat
  | [] => 0
  | b :: l => b.toNat + 2 * bval l
theorem bval_snoc : ∀ (l : List Bool) (b : Bool), bval (l ++ [b]) = bval l + b.toNat * 2 ^ l.length
  | [], b => by simp [bval]
  | c :: l, b => by
    simp only [List.cons_append, bval, bval_snoc l b, List.length_cons, Nat.pow_succ]
    generalize 2 ^ l.length = p
    cases b <;> simp <;> omega
/-- What is told of x, and what is left of it. -/
def BitsTo (x : Int) (pre : List Bool) (r : Int) : Prop := (bval pre : Int) + r * 2 ^ pre.length = x
theorem BitsTo.start (x : Int) : BitsTo x [] x := by unfold BitsTo bval; simp
theorem BitsTo.step {x r : Int} {pre : List Bool} (h : BitsTo x pre r) {b : Bool} (hb : r % 2 = (b.toNat : Int)) : BitsTo x (pre ++ [b]) (r / 2) := by
  unfold BitsTo at *
  rw [bval_snoc, List.length_append, List.length_singleton, Int.pow_succ]
  have e : r * 2 ^ pre.length = (r / 2) * (2 ^ pre.length * 2) + (b.toNat : Int) * 2 ^ pre.length := by
    have : r = r / 2 * 2 + b.toNat := by omega
    conv => lhs; rw [this, Int.add_mul, Int.mul_assoc, Int.mul_comm 2]
  rw [e] at h
  push_cast
  omega
theorem BitsTo.done {x r : Int} {pre : List Bool} (h : BitsTo x pre r) (hr : r = 0) : (bval pre : Int) = x := by
  unfold BitsTo at h
  rw [hr, Int.zero_mul, Int.add_zero] at h
  exact h
theorem BitsTo.short {x r : Int} {pre : List Bool} (h : BitsTo x pre r) (hr : 0 < r) (hx : x < 18446744073709551616) : pre.length < 64 := by
  unfold BitsTo at h
  rcases Nat.lt_or_ge pre.length 64 with g | g
  · exact g
  · have p : (2 : Int) ^ 64 ≤ 2 ^ pre.length := by
      have := Nat.pow_le_pow_right (show 0 < 2 by omega) g
      exact_mod_cast this
    have e : (2 : Int) ^ 64 = 18446744073709551616 := by decide
    have q : 1 * (2 : Int) ^ pre.length ≤ r * 2 ^ pre.length := Int.mul_le_mul_of_nonneg_right (by omega) (by omega)
    omega

/-- A power modulo m. -/
def mpow (m a : Int) (n : Nat) : Int := a ^ n % m
/-- What is squared k times. -/
def msq (m a : Int) (k : Nat) : Int := if k = 0 then a else mpow m a (2 ^ k)
theorem msq_mod (m a : Int) (k : Nat) : msq m a k % m = a ^ (2 ^ k) % m := by
  unfold msq mpow
  by_cases h : k = 0
  · subst h; simp [Int.pow_succ]
  · rw [if_neg h, Int.emod_emod]
theorem msq_step (m a : Int) (k : Nat) : msq m a k * msq m a k % m = msq m a (k + 1) := by
  rw [Int.mul_emod, msq_mod, ← Int.mul_emod]
  unfold msq mpow
  rw [if_neg (by omega), Nat.pow_succ, Nat.mul_comm, Nat.two_mul, Int.pow_add]
theorem mpow_step (m a : Int) (pre : List Bool) (b : Bool) (hb : b = true) : mpow m a (bval pre) * msq m a pre.length % m = mpow m a (bval (pre ++ [b])) := by
  subst hb
  rw [Int.mul_emod, msq_mod]
  unfold mpow
  rw [Int.emod_emod, ← Int.mul_emod, ← Int.pow_add, bval_snoc]
  simp
theorem mpow_skip (m a : Int) (pre : List Bool) (b : Bool) (hb : b = false) : mpow m a (bval pre) = mpow m a (bval (pre ++ [b])) := by
  subst hb
  rw [bval_snoc]; simp
theorem mpow_bound (m a : Int) (n : Nat) (m0 : 0 < m) : 0 ≤ mpow m a n ∧ mpow m a n < m := ⟨Int.emod_nonneg _ (by omega), Int.emod_lt_of_pos _ m0⟩
theorem msq_bound (m a : Int) (k : Nat) (m0 : 0 < m) (m1 : m < 18446744073709551616) (a0 : 0 ≤ a) (a1 : a < 18446744073709551616) : 0 ≤ msq m a k ∧ msq m a k < 18446744073709551616 := by
  unfold msq
  by_cases h : k = 0
  · rw [if_pos h]; exact ⟨a0, a1⟩
  · rw [if_neg h]; have := mpow_bound m a (2 ^ k) m0; omega
theorem mpow_zero (m a : Int) (h : 1 < m) : mpow m a 0 = 1 := by unfold mpow; rw [Int.pow_zero]; exact Int.emod_eq_of_lt (by omega) h
end Gs

/- Plain facts on powers modulo Q and R: the group of squares. -/
import Derived.Test.YtippfhlljlfcnaaNumQ
namespace Gs
set_option linter.unusedVariables false

def QQ : Nat := 2305843009213691579
def RR : Nat := 1152921504606845789
theorem QQ_gen : Gen QQ 2 := genQ
theorem RR_gen : Gen RR 2 := genR

theorem mul_modl (a b n : Nat) : (a % n) * b % n = a * b % n := by rw [Nat.mul_mod, Nat.mod_mod, ← Nat.mul_mod]
theorem mul_modr (a b n : Nat) : a * (b % n) % n = a * b % n := by rw [Nat.mul_mod, Nat.mod_mod, ← Nat.mul_mod]
theorem pow_modl (a n k : Nat) : (a % n) ^ k % n = a ^ k % n := (Nat.pow_mod a k n).symm

theorem four_R : 4 ^ RR % QQ = 1 := by
  have h := QQ_gen.one
  rw [show QQ - 1 = 2 * RR from rfl, Nat.pow_mul, show (2 : Nat) ^ 2 = 4 from rfl] at h
  exact h
theorem four_mod (i : Nat) : 4 ^ i % QQ = 4 ^ (i % RR) % QQ := by
  conv => lhs; rw [← Nat.div_add_mod i RR, Nat.pow_add, Nat.pow_mul, Nat.mul_mod, Nat.pow_mod, four_R, Nat.one_pow]
  rw [show 1 % QQ = 1 from rfl, Nat.one_mul, Nat.mod_mod]
/-- The generator's powers are the same just if the exponents are, modulo R. -/
theorem four_eq (i j : Nat) : 4 ^ i % QQ = 4 ^ j % QQ ↔ i % RR = j % RR := by
  refine ⟨fun h => ?_, fun h => by rw [four_mod i, four_mod j, h]⟩
  rw [four_mod i, four_mod j] at h
  have hi := Nat.mod_lt i (show RR > 0 by decide)
  have hj := Nat.mod_lt j (show RR > 0 by decide)
  have e : ∀ k, 4 ^ k = 2 ^ (2 * k) := fun k => by rw [Nat.pow_mul]
  rw [e, e] at h
  have hQ : QQ - 1 = 2 * RR := rfl
  rcases Nat.lt_trichotomy (i % RR) (j % RR) with g | g | g
  · exact absurd h (QQ_gen.inj _ _ (by omega) (by omega))
  · exact g
  · exact absurd h.symm (QQ_gen.inj _ _ (by omega) (by omega))
/-- A square: the Rth power is 1. -/
def Sq (x : Nat) : Prop := x ^ RR % QQ = 1
theorem Sq.mod {x : Nat} : Sq (x % QQ) ↔ Sq x := by unfold Sq; rw [pow_modl]
theorem Sq.mul {x y : Nat} (hx : Sq x) (hy : Sq y) : Sq (x * y) := by
  unfold Sq at *
  rw [Nat.mul_pow, Nat.mul_mod, hx, hy]; rfl
theorem Sq.pow {x : Nat} (hx : Sq x) (k : Nat) : Sq (x ^ k) := by
  unfold Sq at *
  rw [← Nat.pow_mul, Nat.mul_comm, Nat.pow_mul, Nat.pow_mod, hx, Nat.one_pow]; rfl
theorem Sq.four : Sq 4 := four_R
theorem Sq.pos {x : Nat} (hx : Sq x) : x % QQ ≠ 0 := fun h => by
  unfold Sq at hx
  rw [← pow_modl, h, Nat.zero_pow (by decide)] at hx
  exact absurd hx (by decide)
theorem q_fermat {a : Nat} (h : a % QQ ≠ 0) : a ^ (QQ - 1) % QQ = 1 := QQ_gen.fermat a h
theorem r_fermat {a : Nat} (h : a % RR ≠ 0) : a ^ (RR - 1) % RR = 1 := RR_gen.fermat a h
theorem q_inv {a : Nat} (h : a % QQ ≠ 0) : a ^ (QQ - 2) % QQ * a % QQ = 1 := by
  rw [mul_modl, ← Nat.pow_succ]
  exact q_fermat h
theorem r_inv {a : Nat} (h : a % RR ≠ 0) : a ^ (RR - 2) % RR * a % RR = 1 := by
  rw [mul_modl, ← Nat.pow_succ]
  exact r_fermat h
theorem Pr.euclid {p a b : Nat} (hp : Pr p) (h : p ∣ a * b) : p ∣ a ∨ p ∣ b := by
  rcases hp.2 (Nat.gcd p a) (Nat.gcd_dvd_left p a) with g | g
  · exact .inr (Nat.Coprime.dvd_of_dvd_mul_left g h)
  · exact .inl (by rw [← g]; exact Nat.gcd_dvd_right p a)
/-- The Rth power of what is not 0 is 1, or is missing 1 to Q. -/
theorem sq_cases {x : Nat} (h : x % QQ ≠ 0) : x ^ RR % QQ = 1 ∨ x ^ RR % QQ = QQ - 1 := by
  have hf := q_fermat h
  rw [show QQ - 1 = RR * 2 from rfl, Nat.pow_mul, ← pow_modl] at hf
  have hy := Nat.mod_lt (x ^ RR) (show QQ > 0 by decide)
  generalize x ^ RR % QQ = y at *
  have hq : QQ > 1 := by decide
  rcases Nat.eq_zero_or_pos y with g | g
  · subst g; exact absurd hf (by decide)
  · have hd : QQ ∣ (y - 1) * (y + 1) := by
      have e : (y - 1) * (y + 1) = y ^ 2 - 1 := by
        obtain ⟨z, rfl⟩ : ∃ z, y = z + 1 := ⟨y - 1, by omega⟩
        rw [Nat.add_sub_cancel, Nat.pow_two, Nat.add_mul, Nat.mul_add, Nat.mul_add]; omega
      rw [e]
      exact ⟨y ^ 2 / QQ, by have := Nat.div_add_mod (y ^ 2) QQ; omega⟩
    rcases (QQ_gen.prime).euclid hd with d | d
    · left
      rcases Nat.eq_zero_or_pos (y - 1) with k | k
      · omega
      · have := Nat.le_of_dvd k d; omega
    · right
      have := Nat.le_of_dvd (by omega) d; omega
theorem neg_one_R : (QQ - 1) ^ RR % QQ = QQ - 1 := by
  have h : pw QQ (QQ - 1) 64 RR = QQ - 1 := by decide +kernel
  rw [pw_eq _ _ _ _ (by decide)] at h
  exact h
/-- Of a number and what is missing from it just one is a square. -/
theorem one_square {x : Nat} (h0 : 0 < x) (h1 : x < QQ) : Sq x ↔ ¬ Sq (QQ - x) := by
  have hx : x % QQ ≠ 0 := by rw [Nat.mod_eq_of_lt h1]; omega
  have e : (QQ - x) % QQ = (QQ - 1) * x % QQ := by
    have : (QQ - 1) * x = (QQ - x) + QQ * (x - 1) := by
      obtain ⟨z, rfl⟩ : ∃ z, x = z + 1 := ⟨x - 1, by omega⟩
      rw [Nat.add_sub_cancel, Nat.sub_mul, Nat.mul_add]; omega
    rw [this, Nat.add_mul_mod_self_left]
  have hp : (QQ - x) ^ RR % QQ = (QQ - 1) * (x ^ RR % QQ) % QQ := by
    rw [← pow_modl, e, pow_modl, Nat.mul_pow, Nat.mul_mod, neg_one_R]
  unfold Sq
  rw [hp]
  rcases sq_cases hx with g | g
  · rw [g]; simp; decide
  · rw [g]; decide
end Gs

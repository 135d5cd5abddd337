/- Plain facts on long division: two digits by two, with a digit that is tried and taken down. -/
import Derived.Test.YtippfhlljlfcnaaHashMath
namespace Gs
set_option linter.unusedVariables false

/-- What is known of the divisor's halves, of what is divided, and of the next digit. -/
structure Dig (c d U l : Int) : Prop where
  c0 : 2147483648 ≤ c
  c1 : c < 4294967296
  d0 : 0 ≤ d
  d1 : d < 4294967296
  U0 : 0 ≤ U
  U1 : U < c * 4294967296 + d
  l0 : 0 ≤ l
  l1 : l < 4294967296
/-- The true digit. -/
def dq (c d U l : Int) : Int := (U * 4294967296 + l) / (c * 4294967296 + d)
def dr (c d U l : Int) : Int := (U * 4294967296 + l) % (c * 4294967296 + d)
theorem Dig.dq_spec {c d U l : Int} (h : Dig c d U l) : 0 ≤ dq c d U l ∧ dq c d U l < 4294967296 ∧ 0 ≤ dr c d U l ∧ dr c d U l < c * 4294967296 + d ∧ dq c d U l * c * 4294967296 + dq c d U l * d + dr c d U l = U * 4294967296 + l := by
  obtain ⟨c0, c1, d0, d1, U0, U1, l0, l1⟩ := h
  have hY : 0 < c * 4294967296 + d := by omega
  have e := Int.mul_ediv_add_emod (U * 4294967296 + l) (c * 4294967296 + d)
  have r0 := Int.emod_nonneg (U * 4294967296 + l) (show c * 4294967296 + d ≠ 0 by omega)
  have r1 := Int.emod_lt_of_pos (U * 4294967296 + l) hY
  have q0 := Int.ediv_nonneg (a := U * 4294967296 + l) (b := c * 4294967296 + d) (by omega) (by omega)
  have q1 : (U * 4294967296 + l) / (c * 4294967296 + d) < 4294967296 := Int.ediv_lt_of_lt_mul hY (by omega)
  refine ⟨q0, q1, r0, r1, ?_⟩
  show (U * 4294967296 + l) / (c * 4294967296 + d) * c * 4294967296 + (U * 4294967296 + l) / (c * 4294967296 + d) * d + (U * 4294967296 + l) % (c * 4294967296 + d) = _
  generalize (U * 4294967296 + l) / (c * 4294967296 + d) = q at *
  rw [Int.mul_comm, Int.mul_add, ← Int.mul_assoc] at e
  omega
theorem Dig.start {c d U l : Int} (h : Dig c d U l) : dq c d U l ≤ U / c := by
  obtain ⟨q0, q1, r0, r1, e⟩ := h.dq_spec
  obtain ⟨c0, c1, d0, d1, U0, U1, l0, l1⟩ := h
  have hd := Int.mul_nonneg q0 d0
  exact Int.le_ediv_of_mul_le (by omega) (by omega)
theorem Dig.done {c d U l q r : Int} (h : Dig c d U l) (he : q * c + r = U) (hq : dq c d U l ≤ q) (ht : q * d ≤ 4294967296 * r + l) : q = dq c d U l := by
  have hY : 0 < c * 4294967296 + d := by have := h.c0; have := h.d0; omega
  have : q ≤ dq c d U l := Int.le_ediv_of_mul_le hY (by
    rw [Int.mul_add, ← Int.mul_assoc]
    generalize q * c = A at *
    generalize q * d = B at *
    omega)
  omega
theorem Dig.more {c d U l q r : Int} (h : Dig c d U l) (he : q * c + r = U) (ht : 4294967296 ≤ q ∨ 4294967296 * r + l < q * d) : dq c d U l ≤ q - 1 := by
  have hY : 0 < c * 4294967296 + d := by have := h.c0; have := h.d0; omega
  rcases ht with ht | ht
  · have := h.dq_spec.2.1; omega
  · have : dq c d U l < q := Int.ediv_lt_of_lt_mul hY (by
      rw [Int.mul_add, ← Int.mul_assoc]
      generalize q * c = A at *
      generalize q * d = B at *
      omega)
    omega
theorem Dig.left {c d U l q r : Int} (h : Dig c d U l) (he : q * c + r = U) (hq : dq c d U l ≤ q) (hr : 4294967296 ≤ r) : q = dq c d U l := by
  have g := h
  obtain ⟨c0, c1, d0, d1, U0, U1, l0, l1⟩ := g
  have q0 := h.dq_spec.1
  have hq2 : q < 4294967296 := by
    refine Int.lt_of_mul_lt_mul_right (a := c) ?_ (by omega)
    generalize q * c = A at *
    omega
  have hb : q * d ≤ 4294967296 * 4294967296 := Int.mul_le_mul (by omega) (by omega) d0 (by omega)
  exact h.done he hq (by omega)
/-- Both digits make the remainder. -/
theorem two_digits {c d U l1 l0 : Int} : dr c d (dr c d U l1) l0 = (U * 18446744073709551616 + (l1 * 4294967296 + l0)) % (c * 4294967296 + d) := by
  unfold dr
  have : U * 18446744073709551616 + (l1 * 4294967296 + l0) = (U * 4294967296 + l1) * 4294967296 + l0 := by omega
  rw [this, Int.add_emod ((U * 4294967296 + l1) * 4294967296), Int.mul_emod (U * 4294967296 + l1), Int.add_emod, Int.mul_emod ((U * 4294967296 + l1) % _), Int.emod_emod]
theorem shifted {hi lo y : Int} {s : Nat} (hs : s ≤ 63) (hl : 0 ≤ lo) : ((hi * 2 ^ s + lo / 2 ^ (64 - s)) * 18446744073709551616 + lo * 2 ^ s % 18446744073709551616) % (y * 2 ^ s) = (hi * 18446744073709551616 + lo) % y * 2 ^ s := by
  have p0 : (0 : Int) < 2 ^ s := Int.pow_pos (by omega)
  have e64 : (18446744073709551616 : Int) = 2 ^ (64 - s) * 2 ^ s := by rw [← Int.pow_add, show 64 - s + s = 64 by omega]; decide
  have hd : lo * 2 ^ s / 18446744073709551616 = lo / 2 ^ (64 - s) := by
    rw [e64]; exact Int.mul_ediv_mul_of_pos_left _ _ p0
  have he := Int.mul_ediv_add_emod (lo * 2 ^ s) 18446744073709551616
  rw [hd] at he
  have h1 : (hi * 2 ^ s + lo / 2 ^ (64 - s)) * 18446744073709551616 + lo * 2 ^ s % 18446744073709551616 = (hi * 18446744073709551616 + lo) * 2 ^ s := by
    rw [Int.add_mul (hi * 18446744073709551616), Int.mul_assoc hi, Int.mul_comm 18446744073709551616, ← Int.mul_assoc]
    generalize hi * 2 ^ s = A at *
    generalize lo / 2 ^ (64 - s) = B at *
    generalize lo * 2 ^ s = C at *
    omega
  rw [h1]
  rw [Int.mul_comm _ ((2 : Int) ^ s), Int.mul_comm y ((2 : Int) ^ s), Int.mul_emod_mul_of_pos _ _ p0, Int.mul_comm]
/-- What words give of a remainder. -/
theorem word_rem {c d U l : Int} (h : Dig c d U l) : ((U * 4294967296 % 18446744073709551616 + l) % 18446744073709551616 - dq c d U l * (c * 4294967296 + d) % 18446744073709551616) % 18446744073709551616 = dr c d U l := by
  obtain ⟨q0, q1, r0, r1, e⟩ := h.dq_spec
  obtain ⟨c0, c1, d0, d1, U0, U1, l0, l1⟩ := h
  rw [Int.mul_add, ← Int.mul_assoc]
  generalize dq c d U l * c = A at *
  generalize dq c d U l * d = B at *
  omega
end Gs

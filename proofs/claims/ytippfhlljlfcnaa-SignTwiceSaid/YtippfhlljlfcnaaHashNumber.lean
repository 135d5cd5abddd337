/- Plain facts on bytes as numbers, the highest first. -/
import Derived.Test.YtippfhlljlfcnaaHashBytes
namespace Gs
set_option linter.unusedVariables false

theorem bnum_snoc : ∀ (l : List Int) (y a : Int), bnum (l ++ [y]) a = 256 * bnum l a + y
  | [], y, a => rfl
  | x :: r, y, a => by simp only [List.cons_append, bnum]; exact bnum_snoc r y _
theorem bnum_take (xs : List Int) (k : Nat) (h : k < xs.length) : bnum (xs.take (k + 1)) 0 = 256 * bnum (xs.take k) 0 + xs[k] := by
  rw [List.take_succ_eq_append_getElem h, bnum_snoc]
theorem pow256 (k : Nat) (h : k ≤ 7) : (256 : Int) ^ k ≤ 72057594037927936 := by
  have h1 := Nat.pow_le_pow_right (n := 256) (by omega) h
  have h2 : ((256 ^ k : Nat) : Int) ≤ ((256 ^ 7 : Nat) : Int) := Int.ofNat_le.2 h1
  rw [Int.natCast_pow] at h2
  exact h2
theorem bnum_bound (xs : List Int) (hx : ∀ x ∈ xs, 0 ≤ x ∧ x < 256) : ∀ k, k ≤ xs.length → 0 ≤ bnum (xs.take k) 0 ∧ bnum (xs.take k) 0 < 256 ^ k
  | 0, _ => by simp [bnum]
  | k + 1, h => by
    have ih := bnum_bound xs hx k (by omega)
    have hk := hx _ (List.getElem_mem (show k < xs.length by omega))
    rw [bnum_take xs k (by omega), Int.pow_succ]
    omega
theorem bnum_u (xs : List Int) (hx : ∀ x ∈ xs, 0 ≤ x ∧ x < 256) (h8 : xs.length ≤ 8) : U64 (bnum xs 0) := by
  have h := bnum_bound xs hx xs.length (Nat.le_refl _)
  rw [List.take_length] at h
  refine ⟨h.1, Int.lt_of_lt_of_le h.2 ?_⟩
  have h1 := Nat.pow_le_pow_right (n := 256) (by omega) h8
  have h2 : ((256 ^ xs.length : Nat) : Int) ≤ ((256 ^ 8 : Nat) : Int) := Int.ofNat_le.2 h1
  rw [Int.natCast_pow] at h2
  exact h2
end Gs

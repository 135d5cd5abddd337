/- Whole numbers as bytes, plainly: two's complement, as few as there have to be. -/
import Derived.Test.YteafbfhojhpbgaaDerMath
namespace Go.Proofs.Yteafbfhojhpbgaa
open Go.ChangeShapes Go.WideShapes Go.ChangeAt Go.RowKit Gs
set_option linter.unusedVariables false

/-- Has it room in so many bytes? -/
def FitsI (n : Int) (s : Nat) : Prop := n / 2 ^ (8 * s - 1) = 0 ∨ n / 2 ^ (8 * s - 1) = -1
instance (n : Int) (s : Nat) : Decidable (FitsI n s) := inferInstanceAs (Decidable (_ ∨ _))
/-- A number's last s bytes, the highest one first. -/
def bz (n : Int) : Nat → List Int
  | 0 => []
  | s + 1 => n / 2 ^ (8 * s) % 256 :: bz n s
theorem bz_length (n : Int) (s : Nat) : (bz n s).length = s := by induction s <;> simp [bz, *]
theorem bz_get (n : Int) : ∀ (s k : Nat) (h : k < s), (bz n s)[k]? = some (n / 2 ^ (8 * (s - 1 - k)) % 256)
  | s + 1, 0, _ => by simp [bz]
  | s + 1, k + 1, h => by
    rw [bz, List.getElem?_cons_succ, bz_get n s k (by omega)]
    rw [show s + 1 - 1 - (k + 1) = s - 1 - k by omega]
theorem bz_take (n : Int) (s k : Nat) (h : k < s) : (bz n s).take (k + 1) = (bz n s).take k ++ [n / 2 ^ (8 * (s - 1 - k)) % 256] := by
  have hl := bz_length n s
  have hk : k < (bz n s).length := by omega
  rw [List.take_succ_eq_append_getElem hk]
  have := bz_get n s k h
  rw [List.getElem?_eq_getElem hk] at this
  rw [Option.some.inj this]
theorem bz_all (n : Int) (s : Nat) : (bz n s).take s = bz n s := by rw [List.take_of_length_le (by rw [bz_length]; omega)]
theorem bz_byte (n : Int) : ∀ s, ∀ x ∈ bz n s, 0 ≤ x ∧ x < 256
  | 0, x, h => by simp [bz] at h
  | s + 1, x, h => by
    rcases List.mem_cons.1 h with rfl | h
    · omega
    · exact bz_byte n s x h

theorem pow_256 (s : Nat) : (2 : Int) ^ (8 * (s + 1)) = 2 ^ (8 * s) * 256 := by rw [show 8 * (s + 1) = 8 * s + 8 by omega, Int.pow_add]; rfl
theorem pow_128 (s : Nat) : (2 : Int) ^ (8 * (s + 1) - 1) = 2 ^ (8 * s) * 128 := by rw [show 8 * (s + 1) - 1 = 8 * s + 7 by omega, Int.pow_add]; rfl
theorem div_256 (n : Int) (s : Nat) : n / 2 ^ (8 * (s + 1)) = n / 2 ^ (8 * s) / 256 := by rw [pow_256, Int.ediv_ediv_of_nonneg (Int.le_of_lt (Int.pow_pos (by omega)))]
theorem div_128 (n : Int) (s : Nat) : n / 2 ^ (8 * (s + 1) - 1) = n / 2 ^ (8 * s) / 128 := by rw [pow_128, Int.ediv_ediv_of_nonneg (Int.le_of_lt (Int.pow_pos (by omega)))]
theorem fits_is (n : Int) (s : Nat) : FitsI n (s + 1) ↔ n / 2 ^ (8 * s) / 128 = 0 ∨ n / 2 ^ (8 * s) / 128 = -1 := by unfold FitsI; rw [div_128]
theorem fits_8 (n : Int) (h0 : -9223372036854775808 ≤ n) (h1 : n < 9223372036854775808) : FitsI n 8 := by
  unfold FitsI
  rw [show (2 : Int) ^ (8 * 8 - 1) = 9223372036854775808 by decide]
  omega
theorem fits_more {n : Int} {s : Nat} (h : FitsI n (s + 1)) : FitsI n (s + 2) := by
  rw [fits_is] at *
  rw [div_256]
  omega

/-- How many bytes there have to be. -/
def sizeI (n : Int) : Nat := if FitsI n 1 then 1 else if FitsI n 2 then 2 else if FitsI n 3 then 3 else if FitsI n 4 then 4 else if FitsI n 5 then 5 else if FitsI n 6 then 6 else if FitsI n 7 then 7 else 8
theorem sizeI_is (n : Int) (h0 : -9223372036854775808 ≤ n) (h1 : n < 9223372036854775808) : 1 ≤ sizeI n ∧ sizeI n ≤ 8 ∧ FitsI n (sizeI n) ∧ ∀ s, 1 ≤ s → s < sizeI n → ¬ FitsI n s := by
  have h8 := fits_8 n h0 h1
  unfold sizeI
  by_cases a1 : FitsI n 1
  · rw [if_pos a1]; exact ⟨by omega, by omega, a1, fun s _ _ => by omega⟩
  rw [if_neg a1]
  by_cases a2 : FitsI n 2
  · rw [if_pos a2]; exact ⟨by omega, by omega, a2, fun s _ _ => (show s = 1 by omega) ▸ a1⟩
  rw [if_neg a2]
  by_cases a3 : FitsI n 3
  · rw [if_pos a3]; exact ⟨by omega, by omega, a3, fun s _ _ => by rcases (show s = 1 ∨ s = 2 by omega) with rfl | rfl <;> assumption⟩
  rw [if_neg a3]
  by_cases a4 : FitsI n 4
  · rw [if_pos a4]; exact ⟨by omega, by omega, a4, fun s _ _ => by rcases (show s = 1 ∨ s = 2 ∨ s = 3 by omega) with rfl | rfl | rfl <;> assumption⟩
  rw [if_neg a4]
  by_cases a5 : FitsI n 5
  · rw [if_pos a5]; exact ⟨by omega, by omega, a5, fun s _ _ => by rcases (show s = 1 ∨ s = 2 ∨ s = 3 ∨ s = 4 by omega) with rfl | rfl | rfl | rfl <;> assumption⟩
  rw [if_neg a5]
  by_cases a6 : FitsI n 6
  · rw [if_pos a6]; exact ⟨by omega, by omega, a6, fun s _ _ => by rcases (show s = 1 ∨ s = 2 ∨ s = 3 ∨ s = 4 ∨ s = 5 by omega) with rfl | rfl | rfl | rfl | rfl <;> assumption⟩
  rw [if_neg a6]
  by_cases a7 : FitsI n 7
  · rw [if_pos a7]; exact ⟨by omega, by omega, a7, fun s _ _ => by rcases (show s = 1 ∨ s = 2 ∨ s = 3 ∨ s = 4 ∨ s = 5 ∨ s = 6 by omega) with rfl | rfl | rfl | rfl | rfl | rfl <;> assumption⟩
  rw [if_neg a7]
  exact ⟨by omega, by omega, h8, fun s _ _ => by rcases (show s = 1 ∨ s = 2 ∨ s = 3 ∨ s = 4 ∨ s = 5 ∨ s = 6 ∨ s = 7 by omega) with rfl | rfl | rfl | rfl | rfl | rfl | rfl <;> assumption⟩
/-- An int's bytes. -/
def intE (n : Int) : List Int := bz n (sizeI n)

/-- The number that bytes are, from a beginning. -/
def foldI (a : Int) (b : List Int) : Int := b.foldl (fun n x => 256 * n + x) a
def headI (b : List Int) : Int := if (128 : Int) ≤ b[0]?.getD 0 then -1 else 0
def valI (b : List Int) : Int := foldI (headI b) b
theorem fold_bz (n : Int) : ∀ s, foldI (n / 2 ^ (8 * s)) (bz n s) = n
  | 0 => by simp [bz, foldI]
  | s + 1 => by
    have e : 256 * (n / 2 ^ (8 * (s + 1))) + n / 2 ^ (8 * s) % 256 = n / 2 ^ (8 * s) := by rw [div_256]; omega
    show foldI (256 * (n / 2 ^ (8 * (s + 1))) + n / 2 ^ (8 * s) % 256) (bz n s) = n
    rw [e]
    exact fold_bz n s
theorem val_bz {n : Int} {s : Nat} (h : FitsI n (s + 1)) : valI (bz n (s + 1)) = n := by
  have e : headI (bz n (s + 1)) = n / 2 ^ (8 * (s + 1)) := by
    rw [div_256]
    rw [fits_is] at h
    unfold headI
    show (if (128 : Int) ≤ (n / 2 ^ (8 * s) % 256 :: bz n s)[0]?.getD 0 then (-1 : Int) else 0) = _
    simp only [List.getElem?_cons_zero, Option.getD_some]
    split <;> omega
  unfold valI
  rw [e]
  exact fold_bz n (s + 1)
theorem intE_len (n : Int) : (intE n).length = sizeI n := bz_length _ _
theorem val_intE (n : Int) (h0 : -9223372036854775808 ≤ n) (h1 : n < 9223372036854775808) : valI (intE n) = n := by
  obtain ⟨a, _, f, _⟩ := sizeI_is n h0 h1
  unfold intE
  obtain ⟨s, hs⟩ : ∃ s, sizeI n = s + 1 := ⟨sizeI n - 1, by omega⟩
  rw [hs] at f ⊢
  exact val_bz f
theorem intE_inj {a b : Int} (h0 : -9223372036854775808 ≤ a) (h1 : a < 9223372036854775808) (g0 : -9223372036854775808 ≤ b) (g1 : b < 9223372036854775808) (h : intE a = intE b) : a = b := by
  rw [← val_intE a h0 h1, ← val_intE b g0 g1, h]
theorem intE_ok (n : Int) (h0 : -9223372036854775808 ≤ n) (h1 : n < 9223372036854775808) : intB (intE n) = true := by
  obtain ⟨a, b, f, g⟩ := sizeI_is n h0 h1
  have hl := intE_len n
  unfold intB
  rw [hl]
  rw [decide_eq_true (show 1 ≤ sizeI n ∧ sizeI n ≤ 8 from ⟨a, b⟩), Bool.true_and]
  by_cases e1 : sizeI n = 1
  · rw [decide_eq_true e1]; rfl
  · obtain ⟨s, hs⟩ : ∃ s, sizeI n = s + 2 := ⟨sizeI n - 2, by omega⟩
    have nf := g (s + 1) (by omega) (by omega)
    rw [hs] at f
    rw [fits_is, div_256] at f
    rw [fits_is] at nf
    have x0 : (intE n)[0]?.getD 0 = n / 2 ^ (8 * s) / 256 % 256 := by
      unfold intE
      rw [hs, bz_get _ _ _ (by omega), show s + 2 - 1 - 0 = s + 1 by omega, div_256]; rfl
    have x1 : (intE n)[1]?.getD 0 = n / 2 ^ (8 * s) % 256 := by
      unfold intE
      rw [hs, bz_get _ _ _ (by omega), show s + 2 - 1 - 1 = s by omega]; rfl
    rw [x0, x1]
    have k : ¬ (n / 2 ^ (8 * s) / 256 % 256 = 0 ∧ n / 2 ^ (8 * s) % 256 < 128) ∧ ¬ (n / 2 ^ (8 * s) / 256 % 256 = 255 ∧ 128 ≤ n / 2 ^ (8 * s) % 256) := by
      constructor <;> omega
    simp [e1]
    constructor
    · have := k.1
      omega
    · have := k.2
      omega
theorem intE_sign {n : Int} (h0 : -9223372036854775808 ≤ n) (h1 : n < 9223372036854775808) : (0 ≤ n ↔ (intE n)[0]?.getD 0 < 128) := by
  obtain ⟨a, b, f, _⟩ := sizeI_is n h0 h1
  obtain ⟨s, hs⟩ : ∃ s, sizeI n = s + 1 := ⟨sizeI n - 1, by omega⟩
  rw [hs] at f
  rw [fits_is] at f
  have x0 : (intE n)[0]?.getD 0 = n / 2 ^ (8 * s) % 256 := by
    unfold intE
    rw [hs, bz_get _ _ _ (by omega), show s + 1 - 1 - 0 = s by omega]; rfl
  rw [x0]
  have hp : (0 : Int) < 2 ^ (8 * s) := Int.pow_pos (by omega)
  have hd : 0 ≤ n ↔ 0 ≤ n / 2 ^ (8 * s) := by
    constructor
    · exact fun h => Int.ediv_nonneg h (by omega)
    · intro h
      rcases Int.lt_or_le n 0 with g | g
      · have := Int.ediv_neg_of_neg_of_pos g hp
        omega
      · exact g
  rw [hd]
  generalize n / 2 ^ (8 * s) = u at *
  omega
/-- With a byte more ahead it is none. -/
theorem more_bad {n : Int} (h0 : -9223372036854775808 ≤ n) (h1 : n < 9223372036854775808) (x : Int) (hx : x = if n < 0 then 255 else 0) : intB (x :: intE n) = false := by
  obtain ⟨a, b, _, _⟩ := sizeI_is n h0 h1
  have hl := intE_len n
  have hs := intE_sign h0 h1
  unfold intB
  rw [List.length_cons, hl]
  by_cases h8 : sizeI n + 1 ≤ 8
  · have e1 : ¬ (sizeI n + 1 = 1) := by omega
    rw [decide_eq_true (show 1 ≤ sizeI n + 1 ∧ sizeI n + 1 ≤ 8 from ⟨by omega, h8⟩), decide_eq_false e1]
    have g1 : (x :: intE n)[1]?.getD 0 = (intE n)[0]?.getD 0 := by simp
    rw [g1]
    generalize (intE n)[0]?.getD 0 = u at *
    by_cases hn : n < 0
    · rw [if_pos hn] at hx
      subst hx
      have : 128 ≤ u := by omega
      simp [this]
    · rw [if_neg hn] at hx
      subst hx
      have : u < 128 := by omega
      simp [this]
  · rw [decide_eq_false (fun h => h8 h.2)]; rfl
end Go.Proofs.Yteafbfhojhpbgaa

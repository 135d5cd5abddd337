/- What package sieve tells of many numbers, in one. -/
import Derived.Test.YtgkdkkppeeikoaaSieveG
namespace Gs
/-- What becomes of many numbers: a sieve, or none, and why. -/
structure OfR where
  b : Int
  h : Int
  s : Int
  B : List Int
  e : Int
def ofR (bits hashes salt : Int) (l : List Int) : OfR :=
  if mayN bits hashes salt && rights l then ⟨bits, hashes, salt, ofB bits hashes salt l, 0⟩ else ⟨0, 0, 0, [], 1⟩
theorem ofR_ok {bits hashes salt : Int} {l : List Int} (hm : mayN bits hashes salt = true) (hr : rights l = true) : ofR bits hashes salt l = ⟨bits, hashes, salt, ofB bits hashes salt l, 0⟩ := by
  unfold ofR; rw [hm, hr]; rfl
theorem ofR_no {bits hashes salt : Int} {l : List Int} (h : mayN bits hashes salt = false ∨ rights l = false) : ofR bits hashes salt l = ⟨0, 0, 0, [], 1⟩ := by
  unfold ofR
  rcases h with h | h <;> rw [h] <;> simp
theorem rights_mem {l m : List Int} (h : ∀ n, n ∈ l ↔ n ∈ m) : rights l = rights m := by
  unfold rights
  rw [Bool.eq_iff_iff, List.all_eq_true, List.all_eq_true]
  exact ⟨fun a n hn => a n ((h n).2 hn), fun a n hn => a n ((h n).1 hn)⟩
theorem ofR_same {bits hashes salt : Int} {l m : List Int} (h : ∀ n, n ∈ l ↔ n ∈ m) : ofR bits hashes salt l = ofR bits hashes salt m := by
  cases hm : mayN bits hashes salt
  · rw [ofR_no (.inl hm), ofR_no (.inl hm)]
  · cases hr : rights l
    · rw [ofR_no (.inr hr), ofR_no (.inr (by rw [← rights_mem h, hr]))]
    · rw [ofR_ok hm hr, ofR_ok hm (by rw [← rights_mem h, hr]), ofB_same hm h]
theorem ofR_by (bits hashes salt : Int) (l : List Int) : IsBy (ofR bits hashes salt l).B := by
  cases hm : mayN bits hashes salt
  · rw [ofR_no (.inl hm)]; intro x hx; cases hx
  · cases hr : rights l
    · rw [ofR_no (.inr hr)]; intro x hx; cases hx
    · rw [ofR_ok hm hr]; exact ofB_by _ _ _ _
theorem rights_append (l m : List Int) : rights (l ++ m) = (rights l && rights m) := by unfold rights; rw [List.all_append]
theorem drop_reverse (l : List Int) (j : Nat) (h : j < l.length) : (l.drop j).reverse = (l.drop (j + 1)).reverse ++ [l[j]] := by
  rw [List.drop_eq_getElem_cons h, List.reverse_cons]
end Gs
namespace Go.Proofs.Ytgkdkkppeeikoaa
open Go.ChangeShapes Go.WideShapes Go.ChangeAt Go.RowKit Gs
set_option linter.unusedVariables false

theorem OfS_any (bits hashes salt : Int) (L : Option Addr) (k cl : Nat) (l : List Int) (hk : l.length = k) (hll : k ≤ 1000000) (w : World) (hL : SI w w.heap.size .i64 L l) :
    Calls Try.prog 10 #[.slice L k cl, .int .i64 bits, .int .i64 hashes, .int .i64 salt] w fun e w' => (∃ A n c, e = .returned (.tuple #[svV (ofR bits hashes salt l).b (ofR bits hashes salt l).h (ofR bits hashes salt l).s A n c, .int .i64 (ofR bits hashes salt l).e]) ∧
      (ofR bits hashes salt l).B.length = n ∧ n ≤ 100000 ∧ SI w' w'.heap.size .u8 A (ofR bits hashes salt l).B) ∧ Below w.heap.size w w' := by
  subst hk
  cases hm : mayN bits hashes salt
  · rw [ofR_no (.inl hm)]
    exact (Of_no bits hashes salt hm _ w).mono fun e w' ⟨he, hb⟩ => ⟨⟨none, 0, 0, he, rfl, by omega, fun j hj => by simp at hj⟩, hb⟩
  · refine (Of_may bits hashes salt hm L cl l hll w hL).mono fun e w' ⟨hb, h⟩ => ?_
    have hmb := (mayN_iff.1 hm).1
    rcases h with ⟨hr, g, cap, he, ho⟩ | ⟨hr, he⟩
    · rw [ofR_ok hm hr]
      exact ⟨⟨_, _, _, he, row_len ho, by omega, si_rows ho⟩, hb⟩
    · rw [ofR_no (.inr hr)]
      exact ⟨⟨none, 0, 0, he, rfl, by omega, fun j hj => by simp at hj⟩, hb⟩
end Go.Proofs.Ytgkdkkppeeikoaa

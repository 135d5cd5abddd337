/- Plain facts on numbers as bytes, the highest first. -/
import Derived.Test.YtippfhlljlfcnaaHashMath
namespace Gs
set_option linter.unusedVariables false

theorem be_get (n : Int) : ∀ (k j : Nat), j < k → (be n k)[j]? = some (byt n (k - 1 - j))
  | 0, _, h => by omega
  | k + 1, 0, _ => by simp [be]
  | k + 1, j + 1, h => by
    have ih := be_get n k j (by omega)
    simp only [be, List.getElem?_cons_succ]
    rw [ih, show k - 1 - j = k + 1 - 1 - (j + 1) by omega]
theorem be_take (n : Int) (k j : Nat) (h : j < k) : (be n k).take (j + 1) = (be n k).take j ++ [byt n (k - 1 - j)] := by
  rw [List.take_add_one, be_get n k j h]; rfl
theorem be_all (n : Int) (k : Nat) : (be n k).take k = be n k := List.take_of_length_le (by rw [be_length]; omega)
end Gs

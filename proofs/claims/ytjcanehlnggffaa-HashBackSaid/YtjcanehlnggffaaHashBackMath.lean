/- Plain facts: bytes of numbers are read back, and numbers of bytes are written back. -/
import Derived.Test.YtjcanehlnggffaaHashNumber
namespace Gs
set_option linter.unusedVariables false

set_option maxHeartbeats 2000000 in
theorem bnum_be (n : Int) (h : 0 ≤ n ∧ n < 18446744073709551616) : bnum (be n 8) 0 = n := by
  simp only [be, byt, bnum]
  omega
theorem eight (l : List Int) (h : l.length = 8) : ∃ a b c d e f g i, l = [a, b, c, d, e, f, g, i] := by
  rcases l with _ | ⟨a, _ | ⟨b, _ | ⟨c, _ | ⟨d, _ | ⟨e, _ | ⟨f, _ | ⟨g, _ | ⟨i, _ | ⟨j, r⟩⟩⟩⟩⟩⟩⟩⟩⟩ <;> simp at h
  exact ⟨a, b, c, d, e, f, g, i, rfl⟩
set_option maxHeartbeats 2000000 in
theorem be_bnum (l : List Int) (h : l.length = 8) (hx : ∀ x ∈ l, 0 ≤ x ∧ x < 256) : be (bnum l 0) 8 = l := by
  obtain ⟨a, b, c, d, e, f, g, i, rfl⟩ := eight l h
  simp at hx
  simp only [be, byt, bnum]
  simp
  omega
end Gs

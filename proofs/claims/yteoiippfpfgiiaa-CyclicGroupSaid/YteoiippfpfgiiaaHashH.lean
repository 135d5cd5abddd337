/- Contracts of the hash: the plain answer of parts under a tag. -/
import Derived.Test.YteoiippfpfgiiaaHashG
namespace Go.Proofs.Yteoiippfpfgiiaa
open Go.ChangeShapes Go.WideShapes Go.ChangeAt Go.RowKit Gs
set_option linter.unusedVariables false

theorem be_drop (n : Int) : (be n 8).drop 4 = be n 4 := by simp [be]
theorem own_oneB (w : World) (z : Int) {B g : Nat} (hB : B ≤ g) (hg : g = w.heap.size) : OwnB (w.alloc (.cells #[.int .u8 z] 5)) B (.slice (some ⟨g, 0, none⟩) 1 1) [z] := by
  subst hg
  exact ⟨rfl, .inr ⟨_, 1, #[.int .u8 z], rfl, hB, World.alloc_heap_new w _, Nat.le_refl _, by unfold maxLen; omega, rfl, rfl⟩⟩

end Go.Proofs.Yteoiippfpfgiiaa

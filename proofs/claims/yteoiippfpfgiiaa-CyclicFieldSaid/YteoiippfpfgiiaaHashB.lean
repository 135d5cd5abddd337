/- Contracts of the hash: what is soaked up, chunk by chunk. -/
import Derived.Test.YteoiippfpfgiiaaHashA
import Derived.RangeFuncNested
import Derived.RangeFuncBound
import Derived.RangeFuncCalls
import Derived.RangeFuncLeaves
import Derived.RangeFuncBox
import Derived.Shelf.Abstract
import Derived.Shelf.RegionOpen
import Derived.TacticsInMore
import Derived.LoopNIn
import Derived.LoopIn
import Derived.RegionIn
namespace Go.Proofs.Yteoiippfpfgiiaa
open Go.ChangeShapes Go.WideShapes Go.ChangeAt Go.RowKit Go.Shelf Gs
set_option linter.unusedVariables false

/-- Chunk q of a slice of L elements. -/
def chunkV (a : Addr) (L q : Nat) : Value := .slice (some (a.add (2 * q))) (min 2 (L - 2 * q)) (min 2 (L - 2 * q))

theorem grown_drew (W : World) : W.grownBy W.drew none := ⟨rfl, rfl, rfl, Nat.le_refl _, fun _ _ _ => rfl⟩

theorem SI.up {w : World} {B : Nat} {k : IntKind} {A : Option Addr} {xs : List Int} (h : SI w B k A xs) : SI w w.heap.size k A xs := fun j hj => by
  obtain ⟨ad, e, hb, hc⟩ := h j hj
  exact ⟨ad, e, by have := cell_lt hc; rwa [block_of_add] at this, hc⟩

end Go.Proofs.Yteoiippfpfgiiaa

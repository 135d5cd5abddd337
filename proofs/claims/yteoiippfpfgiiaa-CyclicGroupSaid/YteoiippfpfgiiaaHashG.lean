/- Contracts of the hash: parts under a tag. -/
import Derived.Test.YteoiippfpfgiiaaHashF
import Derived.Test.YteoiippfpfgiiaaHashCoded
import Derived.Lib.AppendStr
namespace Go.Proofs.Yteoiippfpfgiiaa
open Go.ChangeShapes Go.WideShapes Go.ChangeAt Go.RowKit Gs
set_option linter.unusedVariables false

/-- A string's bytes. -/
def sbytes (s : ByteArray) : List Int := s.data.toList.map fun c => (c.toNat : Int)
theorem sbytes_length (s : ByteArray) : (sbytes s).length = s.size := by simp [sbytes]
theorem sbytes_bound (s : ByteArray) : ∀ x ∈ sbytes s, 0 ≤ x ∧ x < 256 := by
  intro x hx
  obtain ⟨c, _, rfl⟩ := List.mem_map.1 hx
  have := c.toNat_lt
  omega
theorem strCells_eq (s : ByteArray) : Lib.strCells s = (sbytes s).map (Value.int .u8) := by
  simp [Lib.strCells, sbytes]

/-- The slice '.slice A ps.length c' holds slices of the bytes ps, all below block B. -/
def SP (w : World) (B : Nat) (A : Option Addr) (ps : List (List Int)) : Prop :=
  ∀ j (h : j < ps.length), ∃ ad, A = some ad ∧ ad.block < B ∧ ∃ A' c', w.cell? (ad.add j) = some (.slice A' ps[j].length c') ∧ ps[j].length ≤ c' ∧ c' ≤ maxLen ∧ SI w B .u8 A' ps[j]
theorem SP.below {w w' : World} {B : Nat} {A : Option Addr} {ps : List (List Int)} (h : SP w B A ps) (hb : Below B w w') : SP w' B A ps := fun j hj => by
  obtain ⟨ad, e, hB, A', c', hc, h1, h2, hs⟩ := h j hj
  exact ⟨ad, e, hB, A', c', (hb.cell (by rw [block_of_add]; exact hB)).trans hc, h1, h2, hs.below hb⟩
theorem SP.more {w : World} {B B' : Nat} {A : Option Addr} {ps : List (List Int)} (h : SP w B A ps) (hB : B ≤ B') : SP w B' A ps := fun j hj => by
  obtain ⟨ad, e, hB', A', c', hc, h1, h2, hs⟩ := h j hj
  exact ⟨ad, e, by omega, A', c', hc, h1, h2, hs.more hB⟩
theorem SP.on {w w' : World} {A : Option Addr} {ps : List (List Int)} (h : SP w w.heap.size A ps) (hb : Below w.heap.size w w') : SP w' w'.heap.size A ps := (h.below hb).more hb.size

end Go.Proofs.Yteoiippfpfgiiaa

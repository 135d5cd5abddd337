/- The chapter's example holds; what is few; a secret of any number. -/
import Derived.Test.YtlannmedefjfhaaGreatSignLib2
namespace Go.Proofs.YtlannmedefjfhaaGreat
open Go.ChangeShapes Go.WideShapes Go.ChangeAt Go.RowKit Gs
set_option linter.unusedVariables false

/-- A secret of any number. -/
def ssn (n : Int) : Int := 1 + n % 1152921504606845788
theorem ssn_bound (n : Int) : 1 ≤ ssn n ∧ ssn n < 1152921504606845789 := by unfold ssn; omega
instance (n : Int) : IsU (ssn n) := ⟨by have := ssn_bound n; omega, by have := ssn_bound n; omega⟩
theorem si_new {w : World} {g : Nat} {t : TypeId} {fr : Nat × Nat} {xs : List Int} (h : w.heap[g]? = some (.cells (xs.map (Value.int .u8)).toArray t fr)) : SI w w.heap.size .u8 (some ⟨g, 0, none⟩) xs := fun j hj => by
  refine ⟨_, rfl, (Array.getElem?_eq_some_iff.1 h).1, ?_⟩
  have e : (Addr.mk g 0 none).add j = ⟨g, j, none⟩ := by
    unfold Addr.add
    split
    · rename_i hj; subst hj; rfl
    · simp
  rw [e]
  simp [World.cell?, h, List.getElem?_eq_getElem hj]
theorem si_lit (w : World) (t : TypeId) (fr : Nat × Nat) (xs : List Int) : SI (w.alloc (.cells (xs.map (Value.int .u8)).toArray t fr)) (w.alloc (.cells (xs.map (Value.int .u8)).toArray t fr)).heap.size .u8 (some ⟨w.heap.size, 0, none⟩) xs :=
  si_new (World.alloc_heap_new w _)

theorem seed_bytes : ∀ x ∈ ([115, 101, 101, 100] : List Int), 0 ≤ x ∧ x < 256 := by decide
theorem msg_bytes : ∀ x ∈ ([109, 115, 103] : List Int), 0 ≤ x ∧ x < 256 := by decide

end Go.Proofs.YtlannmedefjfhaaGreat

/- Arguments that came in, opened: arrays of numbers by value, slices of bytes, strings. -/
import Derived.Test.YteoiippfpfgiiaaFieldD
import Derived.OpenShut
import Derived.Deep.Matrix
namespace Go.Proofs.Yteoiippfpfgiiaa
open Go.ChangeShapes Go.WideShapes Go.ChangeAt Go.RowKit Gs
set_option linter.unusedVariables false

section
variable {H : Type} {enc : TypeId × Value → H} {w : World} {base b0 : Nat} {sp : Nat → Bool} {hd : Bool} {r : Reach} {v : Value} {d : DataW H} {p : List MemPlace}
theorem open_u64_at {n : Nat} {x : Value} {y : DataW H × List MemPlace} (h : DataW.trod enc Try.prog w base sp hd n 22 [x] = some y) : ∃ a, x = .int .u64 a ∧ IsU a := by
  obtain ⟨a, e, _, wa⟩ := DataW.trod_int Try.underlying22 h
  simp at e
  exact ⟨a, e, isU_wf wa⟩
end
end Go.Proofs.Yteoiippfpfgiiaa

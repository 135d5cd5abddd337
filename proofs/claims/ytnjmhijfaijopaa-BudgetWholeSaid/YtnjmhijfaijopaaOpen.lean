/- Arguments that came in, opened: arrays of numbers by value, slices of bytes, strings. -/
import Derived.Test.YtnjmhijfaijopaaFieldLib
import Derived.OpenShut
import Derived.Deep.Matrix
namespace Go.Proofs.Ytnjmhijfaijopaa
open Go.ChangeShapes Go.WideShapes Go.ChangeAt Go.RowKit Gs
set_option linter.unusedVariables false

section
variable {H : Type} {enc : TypeId × Value → H} {w : World} {base b0 : Nat} {sp : Nat → Bool} {hd : Bool} {r : Reach} {v : Value} {d : DataW H} {p : List MemPlace}
set_option maxRecDepth 100000 in
theorem open_u64_at {n : Nat} {x : Value} {y : DataW H × List MemPlace} (h : DataW.trod enc Try.prog w base sp hd n 26 [x] = some y) : ∃ a, x = .int .u64 a ∧ IsU a := by
  obtain ⟨a, e, _, wa⟩ := DataW.trod_int Try.underlying26 h
  simp at e
  exact ⟨a, e, isU_wf wa⟩
set_option maxRecDepth 100000 in
theorem open_bytes (hval : Value.okWide Try.prog w r b0 41 v) (h : DataW.Trod enc Try.prog w base (fun _ => true) hd 41 v d p) :
    ∃ A n c xs, v = .slice A n c ∧ IsRow .u8 w A n c xs := by
  obtain ⟨A, n, c, rfl⟩ := okWide_slice Try.underlying41 hval
  obtain ⟨fuel, hf⟩ := h
  rcases open_ints Try.underlying41 Try.underlying5 (by kernel_rfl) hf with ⟨hcs, _⟩ | ⟨x, l, c', zs, hcs, _, hl, hm, hz, _, hcell, hwz⟩
  · simp [Value.cells] at hcs
    obtain ⟨rfl, rfl, rfl⟩ := hcs
    exact ⟨none, 0, 0, [], rfl, .inl ⟨rfl, rfl, rfl, rfl⟩⟩
  · simp [Value.cells] at hcs
    obtain ⟨rfl, rfl, rfl⟩ := hcs
    exact ⟨_, _, _, zs, rfl, .inr ⟨_, rfl, hl, hm, by simpa using hz, hcell, hwz⟩⟩
end
end Go.Proofs.Ytnjmhijfaijopaa

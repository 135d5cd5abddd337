/- Arguments that came in, opened: arrays of numbers by value, slices of bytes, strings. -/
import Derived.Test.YtgkdkkppeeikoaaFieldLib
import Derived.OpenShut
import Derived.Deep.Matrix
namespace Go.Proofs.Ytgkdkkppeeikoaa
open Go.ChangeShapes Go.WideShapes Go.ChangeAt Go.RowKit Gs
set_option linter.unusedVariables false

section
variable {H : Type} {enc : TypeId × Value → H} {w : World} {base b0 : Nat} {sp : Nat → Bool} {hd : Bool} {r : Reach} {v : Value} {d : DataW H} {p : List MemPlace}
set_option maxRecDepth 100000 in
theorem open_u64_at {n : Nat} {x : Value} {y : DataW H × List MemPlace} (h : DataW.trod enc Try.prog w base sp hd n 54 [x] = some y) : ∃ a, x = .int .u64 a ∧ IsU a := by
  obtain ⟨a, e, _, wa⟩ := DataW.trod_int Try.underlying54 h
  simp at e
  exact ⟨a, e, isU_wf wa⟩
set_option maxRecDepth 100000 in
theorem open_u3 (hval : Value.okWide Try.prog w r b0 66 v) (h : DataW.Trod enc Try.prog w base sp hd 66 v d p) :
    ∃ a b c, v = .agg #[.int .u64 a, .int .u64 b, .int .u64 c] ∧ IsU a ∧ IsU b ∧ IsU c := by
  simp only [Value.okWide, Try.underlying66] at hval
  obtain ⟨cs, rfl, hsz, _⟩ := hval
  have h3 : cs.size = 3 := hsz.trans (by kernel_rfl)
  have he : Try.prog.cellsOf 54 = 1 := by kernel_rfl
  obtain ⟨fuel, hf⟩ := h
  obtain ⟨xs, m, _, _, _, hl, hel⟩ := DataW.trod_array Try.underlying66 hf
  rw [he] at hel
  obtain ⟨l⟩ := cs
  match l, h3 with
  | [x, y, z], _ =>
    have e0 := hel 0 (by omega)
    have e1 := hel 1 (by omega)
    have e2 := hel 2 (by omega)
    rw [List.getElem?_eq_getElem (by omega)] at e0 e1 e2
    obtain ⟨a, rfl, ua⟩ := open_u64_at (x := x) (by simpa [Value.cells] using e0)
    obtain ⟨b, rfl, ub⟩ := open_u64_at (x := y) (by simpa [Value.cells] using e1)
    obtain ⟨c, rfl, uc⟩ := open_u64_at (x := z) (by simpa [Value.cells] using e2)
    exact ⟨a, b, c, rfl, ua, ub, uc⟩
set_option maxRecDepth 100000 in
theorem open_u2 (hval : Value.okWide Try.prog w r b0 56 v) (h : DataW.Trod enc Try.prog w base sp hd 56 v d p) :
    ∃ a b, v = .agg #[.int .u64 a, .int .u64 b] ∧ IsU a ∧ IsU b := by
  simp only [Value.okWide, Try.underlying56] at hval
  obtain ⟨cs, rfl, hsz, _⟩ := hval
  have h3 : cs.size = 2 := hsz.trans (by kernel_rfl)
  have he : Try.prog.cellsOf 54 = 1 := by kernel_rfl
  obtain ⟨fuel, hf⟩ := h
  obtain ⟨xs, m, _, _, _, hl, hel⟩ := DataW.trod_array Try.underlying56 hf
  rw [he] at hel
  obtain ⟨l⟩ := cs
  match l, h3 with
  | [x, y], _ =>
    have e0 := hel 0 (by omega)
    have e1 := hel 1 (by omega)
    rw [List.getElem?_eq_getElem (by omega)] at e0 e1
    obtain ⟨a, rfl, ua⟩ := open_u64_at (x := x) (by simpa [Value.cells] using e0)
    obtain ⟨b, rfl, ub⟩ := open_u64_at (x := y) (by simpa [Value.cells] using e1)
    exact ⟨a, b, rfl, ua, ub⟩
set_option maxRecDepth 100000 in
theorem open_bytes (hval : Value.okWide Try.prog w r b0 24 v) (h : DataW.Trod enc Try.prog w base (fun _ => true) hd 24 v d p) :
    ∃ A n c xs, v = .slice A n c ∧ IsRow .u8 w A n c xs := by
  obtain ⟨A, n, c, rfl⟩ := okWide_slice Try.underlying24 hval
  obtain ⟨fuel, hf⟩ := h
  rcases open_ints Try.underlying24 Try.underlying5 (by kernel_rfl) hf with ⟨hcs, _⟩ | ⟨x, l, c', zs, hcs, _, hl, hm, hz, _, hcell, hwz⟩
  · simp [Value.cells] at hcs
    obtain ⟨rfl, rfl, rfl⟩ := hcs
    exact ⟨none, 0, 0, [], rfl, .inl ⟨rfl, rfl, rfl, rfl⟩⟩
  · simp [Value.cells] at hcs
    obtain ⟨rfl, rfl, rfl⟩ := hcs
    exact ⟨_, _, _, zs, rfl, .inr ⟨_, rfl, hl, hm, by simpa using hz, hcell, hwz⟩⟩
end
end Go.Proofs.Ytgkdkkppeeikoaa

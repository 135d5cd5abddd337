/- A signature that came in, opened. -/
import Derived.Test.YtippfhlljlfcnaaOpen
import Derived.ChangeSame
namespace Go.Proofs.Ytippfhlljlfcnaa
open Go.ChangeShapes Go.WideShapes Go.ChangeAt Go.RowKit Gs
set_option linter.unusedVariables false

section
variable {H : Type} {enc : TypeId × Value → H} {w : World} {base b0 : Nat} {sp : Nat → Bool} {hd : Bool} {r : Reach} {v : Value} {d : DataW H} {p : List MemPlace}
theorem open_sig (hval : Value.okWide Try.prog w r b0 33 v) (h : DataW.Trod enc Try.prog w base sp hd 33 v d p) :
    ∃ a b, v = .agg #[.int .u64 a, .int .u64 b] ∧ IsU a ∧ IsU b := by
  obtain ⟨cs, rfl, hsz⟩ := okWide_struct Try.underlying33 hval
  have h3 : cs.size = 2 := hsz.trans (by kernel_rfl)
  have he : Try.prog.cellsOf 23 = 1 := by kernel_rfl
  obtain ⟨fuel, hf⟩ := h
  obtain ⟨y0, y1, n, _, _, e0, e1⟩ := trod_struct2 Try.underlying33 hf
  obtain ⟨l⟩ := cs
  match l, h3 with
  | [x, y], _ =>
    obtain ⟨a, rfl, ua⟩ := open_u64_at (x := x) (by simpa [Value.cells, he] using e0)
    obtain ⟨b, rfl, ub⟩ := open_u64_at (x := y) (by simpa [Value.cells, he] using e1)
    exact ⟨a, b, rfl, ua, ub⟩
end
end Go.Proofs.Ytippfhlljlfcnaa

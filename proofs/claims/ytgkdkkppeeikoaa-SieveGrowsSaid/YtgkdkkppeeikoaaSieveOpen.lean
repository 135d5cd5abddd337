/- A sieve, and whole numbers in slices, that came in: opened. -/
import Derived.Test.YtgkdkkppeeikoaaOpen
import Derived.Test.YtgkdkkppeeikoaaSieveD
import Derived.ChangeSame
namespace Go.Proofs.Ytgkdkkppeeikoaa
open Go.ChangeShapes Go.WideShapes Go.ChangeAt Go.RowKit Go.Deep Gs
set_option linter.unusedVariables false

section
variable {H : Type} {enc : TypeId × Value → H} {P : Program} {w : World} {base b0 : Nat} {sp : Nat → Bool} {hd : Bool} {r : Reach} {v : Value} {d : DataW H} {p : List MemPlace}
set_option maxRecDepth 100000 in
theorem open_idsS (hval : Value.okWide Try.prog w r b0 22 v) (h : DataW.Trod enc Try.prog w base (fun _ => true) hd 22 v d p) :
    ∃ A n c xs, v = .slice A n c ∧ IsRow .i64 w A n c xs := by
  obtain ⟨A, n, c, rfl⟩ := okWide_slice Try.underlying22 hval
  obtain ⟨fuel, hf⟩ := h
  rcases open_ints Try.underlying22 Try.underlying3 (by kernel_rfl) hf with ⟨hcs, _⟩ | ⟨x, l, c', zs, hcs, _, hl, hm, hz, _, hcell, hwz⟩
  · simp [Value.cells] at hcs
    obtain ⟨rfl, rfl, rfl⟩ := hcs
    exact ⟨none, 0, 0, [], rfl, .inl ⟨rfl, rfl, rfl, rfl⟩⟩
  · simp [Value.cells] at hcs
    obtain ⟨rfl, rfl, rfl⟩ := hcs
    exact ⟨_, _, _, zs, rfl, .inr ⟨_, rfl, hl, hm, by simpa using hz, hcell, hwz⟩⟩
theorem trod_fourS {t : TypeId} {f0 f1 f2 f3 : Field} {fuel : Nat} {cs : List Value} {x : DataW H × List MemPlace} (ht : P.underlying t = some (.struct #[f0, f1, f2, f3])) (h : DataW.trod enc P w base sp hd fuel t cs = some x) :
    ∃ y0 y1 y2 y3 n, cs.length = P.cellsOf t ∧ DataW.trod enc P w base sp hd n f0.type ((cs.drop f0.offset).take (P.cellsOf f0.type)) = some y0 ∧
      DataW.trod enc P w base sp hd n f1.type ((cs.drop f1.offset).take (P.cellsOf f1.type)) = some y1 ∧ DataW.trod enc P w base sp hd n f2.type ((cs.drop f2.offset).take (P.cellsOf f2.type)) = some y2 ∧ DataW.trod enc P w base sp hd n f3.type ((cs.drop f3.offset).take (P.cellsOf f3.type)) = some y3 := by
  obtain ⟨xs, n, _, rfl, hl, hlen, hf⟩ := DataW.trod_struct ht h
  match xs, hlen with
  | [y0, y1, y2, y3], _ => exact ⟨y0, y1, y2, y3, n, hl, by simpa using hf 0 f0 rfl, by simpa using hf 1 f1 rfl, by simpa using hf 2 f2 rfl, by simpa using hf 3 f3 rfl⟩
theorem open_i64_atS {n : Nat} {x : Value} {y : DataW H × List MemPlace} (h : DataW.trod enc Try.prog w base sp hd n 3 [x] = some y) : ∃ a, x = .int .i64 a := by
  obtain ⟨a, e, _, _⟩ := DataW.trod_int Try.underlying3 h
  simp at e
  exact ⟨a, e⟩
set_option maxRecDepth 100000 in
theorem open_bytes_atS {fuel : Nat} {x : Value} {y : DataW H × List MemPlace} (hf : DataW.trod enc Try.prog w base (fun _ => true) hd fuel 24 [x] = some y) :
    ∃ A n c xs, x = .slice A n c ∧ IsRow .u8 w A n c xs := by
  rcases open_ints Try.underlying24 Try.underlying5 (by kernel_rfl) hf with ⟨hcs, _⟩ | ⟨x, l, c', zs, hcs, _, hl, hm, hz, _, hcell, hwz⟩
  · simp at hcs
    subst hcs
    exact ⟨none, 0, 0, [], rfl, .inl ⟨rfl, rfl, rfl, rfl⟩⟩
  · simp at hcs
    subst hcs
    exact ⟨_, _, _, zs, rfl, .inr ⟨_, rfl, hl, hm, by simpa using hz, hcell, hwz⟩⟩
set_option maxRecDepth 100000 in
theorem open_sieve (hval : Value.okWide Try.prog w r b0 26 v) (h : DataW.Trod enc Try.prog w base (fun _ => true) hd 26 v d p) :
    ∃ (bits hashes salt : Int) (A : Option Addr) (n c : Nat) (B : List Int), v = svV bits hashes salt A n c ∧ B.length = n ∧ n ≤ c ∧ c ≤ maxLen ∧ SI w w.heap.size .u8 A B ∧ IsBy B := by
  obtain ⟨cs, rfl, hsz⟩ := okWide_struct Try.underlying26 hval
  have h3 : cs.size = 4 := hsz.trans (by kernel_rfl)
  have hi : Try.prog.cellsOf 3 = 1 := by kernel_rfl
  have hs : Try.prog.cellsOf 24 = 1 := by kernel_rfl
  obtain ⟨fuel, hf⟩ := h
  obtain ⟨y0, y1, y2, y3, n, _, e0, e1, e2, e3⟩ := trod_fourS Try.underlying26 hf
  obtain ⟨l⟩ := cs
  match l, h3 with
  | [x, y, z, u], _ =>
    obtain ⟨a, rfl⟩ := open_i64_atS (x := x) (by simpa [Value.cells, hi] using e0)
    obtain ⟨b, rfl⟩ := open_i64_atS (x := y) (by simpa [Value.cells, hi] using e1)
    obtain ⟨k, rfl⟩ := open_i64_atS (x := z) (by simpa [Value.cells, hi] using e2)
    obtain ⟨A, m, c, xs, rfl, row⟩ := open_bytes_atS (x := u) (by simpa [Value.cells, hs] using e3)
    obtain ⟨xs', rfl, hl, hm, hsi, hx⟩ := row_si row
    exact ⟨a, b, k, A, _, c, xs', rfl, rfl, hl, hm, hsi, fun x hx' => u8_wf (hx x hx')⟩
end
end Go.Proofs.Ytgkdkkppeeikoaa

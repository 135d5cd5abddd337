/- What was spent, that came in: opened. (Printed by tools/gen_budget_open.py.) -/
import Derived.Test.YtnjmhijfaijopaaOpen
import Derived.Test.YtnjmhijfaijopaaBudgetA
import Derived.Deep.SlicePairs
import Derived.Deep.Slices
import Derived.ChangeSame
namespace Go.Proofs.Ytnjmhijfaijopaa
open Go.ChangeShapes Go.WideShapes Go.ChangeAt Go.RowKit Go.Deep Gs
set_option linter.unusedVariables false
section
variable {H : Type} {enc : TypeId × Value → H} {P : Program} {w : World} {base b0 : Nat} {sp : Nat → Bool} {hd : Bool} {r : Reach} {v : Value} {d : DataW H} {p : List MemPlace}
theorem open_i64_atQ {n : Nat} {x : Value} {y : DataW H × List MemPlace} (h : DataW.trod enc Try.prog w base sp hd n 3 [x] = some y) : ∃ a, x = .int .i64 a := by
  obtain ⟨a, e, _, _⟩ := DataW.trod_int Try.underlying3 h
  simp at e
  exact ⟨a, e⟩
set_option maxRecDepth 100000 in
theorem open_spent {fuel : Nat} {cs : List Value} {x : DataW H × List MemPlace} (hf : DataW.trod enc Try.prog w base sp hd fuel 45 cs = some x) : ∃ a b c d, cs = [.int .i64 a, .int .i64 b, .int .i64 c, .int .i64 d] := by
  have hi : Try.prog.cellsOf 3 = 1 := by kernel_rfl
  have h4 : Try.prog.cellsOf 45 = 4 := by kernel_rfl
  obtain ⟨xs, n, _, rfl, hl, hlen, hq⟩ := DataW.trod_struct Try.underlying45 hf
  rw [h4] at hl
  match xs, hlen with
  | [y0, y1, y2, y3], _ =>
    have e0 := hq 0 _ rfl
    have e1 := hq 1 _ rfl
    have e2 := hq 2 _ rfl
    have e3 := hq 3 _ rfl
    match cs, hl with
    | [x, y, z, u], _ =>
      obtain ⟨a, rfl⟩ := open_i64_atQ (x := x) (by simpa [hi] using e0)
      obtain ⟨b, rfl⟩ := open_i64_atQ (x := y) (by simpa [hi] using e1)
      obtain ⟨c, rfl⟩ := open_i64_atQ (x := z) (by simpa [hi] using e2)
      obtain ⟨d, rfl⟩ := open_i64_atQ (x := u) (by simpa [hi] using e3)
      exact ⟨a, b, c, d, rfl⟩
set_option maxRecDepth 100000 in
theorem open_spents (hval : Value.okWide Try.prog w r b0 22 v) (h : DataW.Trod enc Try.prog w base sp hd 22 v d p) :
    ∃ A n c l, v = .slice A n c ∧ l.length = n ∧ n ≤ c ∧ c ≤ maxLen ∧ QS w w.heap.size A l := by
  have h4 : Try.prog.cellsOf 45 = 4 := by kernel_rfl
  obtain ⟨A, n, c, rfl⟩ := okWide_slice Try.underlying22 hval
  obtain ⟨fuel, hf⟩ := h
  rcases open_slice Try.underlying22 hf with ⟨hcs, _⟩ | ⟨a, len, cap, m, n', D, Pl, hcs, _, hl, hm, hmm, _, he⟩
  · simp [Value.cells] at hcs
    obtain ⟨rfl, rfl, rfl⟩ := hcs
    exact ⟨none, 0, 0, [], rfl, rfl, Nat.le_refl _, by unfold maxLen; omega, fun j hj => by simp at hj⟩
  · simp [Value.cells] at hcs
    obtain ⟨rfl, rfl, rfl⟩ := hcs
    have hnm : n ≤ m := by rw [hmm]; split <;> omega
    obtain ⟨q, hq⟩ := choose_lt (n := n) (p := fun i (q : Sp) => w.cell? (a.add (i * 4)) = some (.int .i64 q.1) ∧ w.cell? ⟨(a.add (i * 4)).block, (a.add (i * 4)).off + 1, none⟩ = some (.int .i64 q.2.1) ∧ w.cell? ⟨(a.add (i * 4)).block, (a.add (i * 4)).off + 2, none⟩ = some (.int .i64 q.2.2.1) ∧ w.cell? ⟨(a.add (i * 4)).block, (a.add (i * 4)).off + 3, none⟩ = some (.int .i64 q.2.2.2)) (fun i hi => by
      obtain ⟨cs', hc', ht'⟩ := he i (by omega)
      rw [h4] at hc'
      obtain ⟨x, y, z, u, rfl⟩ := open_spent ht'
      obtain ⟨_, _, hcell⟩ := World.cells?_some hc'
      refine ⟨(x, y, z, u), ?_, ?_, ?_, ?_⟩
      · have := hcell 0 (by omega); simpa [Addr.add] using this
      · have := hcell 1 (by omega); simpa [Addr.add] using this
      · have := hcell 2 (by omega); simpa [Addr.add] using this
      · have := hcell 3 (by omega); simpa [Addr.add] using this)
    refine ⟨some a, n, c, (List.range n).map q, rfl, by simp, hl, hm, fun j hj => ?_⟩
    have hj' : j < n := by simpa using hj
    obtain ⟨h0, h1, h2, h3⟩ := hq j hj'
    have hb := cell_lt h0
    rw [block_of_add] at hb
    exact ⟨a, rfl, hb, by rw [h0]; simp, by rw [h1]; simp, by rw [h2]; simp, by rw [h3]; simp⟩
end
end Go.Proofs.Ytnjmhijfaijopaa

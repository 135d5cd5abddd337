/- A fence that came in: opened. -/
import Derived.Test.YtdiafbeohldbjaaOpen
import Derived.Test.YtdiafbeohldbjaaNonceA
import Derived.Deep.SlicePairs
import Derived.ChangeSame
namespace Go.Proofs.Ytdiafbeohldbjaa
open Go.ChangeShapes Go.WideShapes Go.ChangeAt Go.RowKit Go.Deep Gs
set_option linter.unusedVariables false

section
variable {H : Type} {enc : TypeId × Value → H} {P : Program} {w : World} {base b0 : Nat} {sp : Nat → Bool} {hd : Bool} {r : Reach} {v : Value} {d : DataW H} {p : List MemPlace}
theorem open_i64_atN {n : Nat} {x : Value} {y : DataW H × List MemPlace} (h : DataW.trod enc Try.prog w base sp hd n 3 [x] = some y) : ∃ a, x = .int .i64 a := by
  obtain ⟨a, e, _, _⟩ := DataW.trod_int Try.underlying3 h
  simp at e
  exact ⟨a, e⟩
theorem add_one_offN (a : Addr) (n : Nat) : (⟨(a.add n).block, (a.add n).off + 1, none⟩ : Addr) = a.add (n + 1) := by
  unfold Addr.add
  by_cases h : n = 0
  · subst h; simp
  · simp [h, Nat.add_assoc]
set_option maxRecDepth 100000 in
theorem open_nonces_at {fuel : Nat} {x : Value} {y : DataW H × List MemPlace} (hf : DataW.trod enc Try.prog w base sp hd fuel 22 [x] = some y) :
    ∃ A n c l, x = .slice A n c ∧ l.length = n ∧ n ≤ c ∧ c ≤ maxLen ∧ NS w w.heap.size A l := by
  rcases open_slice_pairs Try.underlying22 Try.underlying41 (by kernel_rfl) rfl rfl (by kernel_rfl) (by kernel_rfl) hf with ⟨hcs, _⟩ | ⟨a, n, c, m, n', V0, V1, D0, D1, P0, P1, hcs, _, hl, hm, hmm, _, he⟩
  · simp at hcs
    subst hcs
    exact ⟨none, 0, 0, [], rfl, rfl, Nat.le_refl _, by unfold maxLen; omega, fun j hj => by simp at hj⟩
  · simp at hcs
    subst hcs
    have hnm : n ≤ m := by rw [hmm]; split <;> omega
    obtain ⟨q, hq⟩ := choose_lt (n := n) (p := fun i (q : Int × Int) => w.cell? (a.add (i * 2)) = some (.int .i64 q.1) ∧ w.cell? (a.add (i * 2 + 1)) = some (.int .i64 q.2)) (fun i hi => by
      obtain ⟨h0, h1, t0, t1⟩ := he i (by omega)
      obtain ⟨x, e0, _, _⟩ := DataW.trod_int Try.underlying3 t0
      obtain ⟨y, e1, _, _⟩ := DataW.trod_int Try.underlying3 t1
      simp at e0 e1
      exact ⟨(x, y), by rw [h0, e0], by rw [h1, e1]⟩)
    refine ⟨some a, n, c, (List.range n).map q, rfl, by simp, hl, hm, fun j hj => ?_⟩
    have hj' : j < n := by simpa using hj
    obtain ⟨h0, h1⟩ := hq j hj'
    have hb := cell_lt h0
    rw [block_of_add] at hb
    refine ⟨a, rfl, hb, ?_, ?_⟩
    · rw [h0]; simp
    · rw [add_one_offN, h1]; simp
set_option maxRecDepth 100000 in
theorem open_fence (hval : Value.okWide Try.prog w r b0 24 v) (h : DataW.Trod enc Try.prog w base sp hd 24 v d p) :
    ∃ (nx : Int) (A : Option Addr) (n c : Nat) (l : List (Int × Int)), v = .agg #[.int .i64 nx, .slice A n c] ∧ l.length = n ∧ n ≤ c ∧ c ≤ maxLen ∧ NS w w.heap.size A l := by
  obtain ⟨cs, rfl, hsz⟩ := okWide_struct Try.underlying24 hval
  have h3 : cs.size = 2 := hsz.trans (by kernel_rfl)
  have hi : Try.prog.cellsOf 3 = 1 := by kernel_rfl
  have hs : Try.prog.cellsOf 22 = 1 := by kernel_rfl
  obtain ⟨fuel, hf⟩ := h
  obtain ⟨y0, y1, n, _, _, e0, e1⟩ := trod_struct2 Try.underlying24 hf
  obtain ⟨l⟩ := cs
  match l, h3 with
  | [x, y], _ =>
    obtain ⟨a, rfl⟩ := open_i64_atN (x := x) (by simpa [Value.cells, hi] using e0)
    obtain ⟨A, m, c, l, rfl, h1, h2, h3, h4⟩ := open_nonces_at (x := y) (by simpa [Value.cells, hs] using e1)
    exact ⟨a, A, m, c, l, rfl, h1, h2, h3, h4⟩
end
end Go.Proofs.Ytdiafbeohldbjaa

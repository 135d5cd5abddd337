/- Rules, and numbers, that came in: opened. -/
import Derived.Test.YtnjmhijfaijopaaBudgetOpen
import Derived.Test.YtnjmhijfaijopaaBudgetV
namespace Go.Proofs.Ytnjmhijfaijopaa
open Go.ChangeShapes Go.WideShapes Go.ChangeAt Go.RowKit Go.Deep Gs
set_option linter.unusedVariables false
set_option linter.unusedSimpArgs false
section
variable {H : Type} {enc : TypeId × Value → H} {P : Program} {w : World} {base b0 : Nat} {sp : Nat → Bool} {hd : Bool} {r : Reach} {v : Value} {d : DataW H} {p : List MemPlace}
set_option maxRecDepth 100000 in
theorem open_rule {fuel : Nat} {cs : List Value} {x : DataW H × List MemPlace} (hf : DataW.trod enc Try.prog w base sp hd fuel 28 cs = some x) : ∃ q : Ru, cs = [.string q.N, .bool q.al, .slice q.PA q.pn q.pc, .int .u64 q.km, .int .i64 q.lm, .int .i64 q.mo, .int .i64 q.wi] := by
  have hi : Try.prog.cellsOf 3 = 1 := by kernel_rfl
  have hu : Try.prog.cellsOf 26 = 1 := by kernel_rfl
  have hb : Try.prog.cellsOf 4 = 1 := by kernel_rfl
  have hs : Try.prog.cellsOf 9 = 1 := by kernel_rfl
  have hl' : Try.prog.cellsOf 25 = 1 := by kernel_rfl
  have h7 : Try.prog.cellsOf 28 = 7 := by kernel_rfl
  obtain ⟨xs, n, _, rfl, hl, hlen, hq⟩ := DataW.trod_struct Try.underlying28 hf
  rw [h7] at hl
  match xs, hlen with
  | [y0, y1, y2, y3, y4, y5, y6], _ =>
    have e0 := hq 0 _ rfl
    have e1 := hq 1 _ rfl
    have e2 := hq 2 _ rfl
    have e3 := hq 3 _ rfl
    have e4 := hq 4 _ rfl
    have e5 := hq 5 _ rfl
    have e6 := hq 6 _ rfl
    match cs, hl with
    | [x0, x1, x2, x3, x4, x5, x6], _ =>
      obtain ⟨N, f0, _, _⟩ := DataW.trod_string Try.underlying9 (by simpa [hs] using e0)
      obtain ⟨al, f1, _⟩ := DataW.trod_bool Try.underlying4 (by simpa [hb] using e1)
      obtain ⟨km, f3, _, _⟩ := DataW.trod_int Try.underlying26 (by simpa [hu] using e3)
      obtain ⟨lm, f4, _, _⟩ := DataW.trod_int Try.underlying3 (by simpa [hi] using e4)
      obtain ⟨mo, f5, _, _⟩ := DataW.trod_int Try.underlying3 (by simpa [hi] using e5)
      obtain ⟨wi, f6, _, _⟩ := DataW.trod_int Try.underlying3 (by simpa [hi] using e6)
      have e2' := (by simpa [hl'] using e2 : DataW.trod enc Try.prog w base sp hd n 25 [x2] = some y2)
      have f2 : ∃ PA pn pc, x2 = .slice PA pn pc := by
        rcases open_slice Try.underlying25 e2' with ⟨hcs, _⟩ | ⟨a, len, cap, m, n', D, Pl, hcs, _⟩
        · simp at hcs; exact ⟨_, _, _, hcs⟩
        · simp at hcs; exact ⟨_, _, _, hcs⟩
      obtain ⟨PA, pn, pc, rfl⟩ := f2
      simp at f0 f1 f3 f4 f5 f6
      exact ⟨⟨N, al, PA, pn, pc, km, lm, mo, wi⟩, by simp [f0, f1, f3, f4, f5, f6]⟩
set_option maxRecDepth 100000 in
theorem open_rules (hval : Value.okWide Try.prog w r b0 36 v) (h : DataW.Trod enc Try.prog w base sp hd 36 v d p) :
    ∃ A n c l, v = .slice A n c ∧ l.length = n ∧ n ≤ c ∧ c ≤ maxLen ∧ RS w w.heap.size A l := by
  have h7 : Try.prog.cellsOf 28 = 7 := by kernel_rfl
  obtain ⟨A, n, c, rfl⟩ := okWide_slice Try.underlying36 hval
  obtain ⟨fuel, hf⟩ := h
  rcases open_slice Try.underlying36 hf with ⟨hcs, _⟩ | ⟨a, len, cap, m, n', D, Pl, hcs, _, hl, hm, hmm, _, he⟩
  · simp [Value.cells] at hcs
    obtain ⟨rfl, rfl, rfl⟩ := hcs
    exact ⟨none, 0, 0, [], rfl, rfl, Nat.le_refl _, by unfold maxLen; omega, fun j hj => by simp at hj⟩
  · simp [Value.cells] at hcs
    obtain ⟨rfl, rfl, rfl⟩ := hcs
    have hnm : n ≤ m := by rw [hmm]; split <;> omega
    haveI : Inhabited Ru := ⟨⟨⟨#[]⟩, false, none, 0, 0, 0, 0, 0, 0⟩⟩
    obtain ⟨q, hq⟩ := choose_lt (n := n) (p := fun i (q : Ru) => w.cell? (a.add (i * 7)) = some (.string q.N) ∧ w.cell? ⟨(a.add (i * 7)).block, (a.add (i * 7)).off + 1, none⟩ = some (.bool q.al) ∧ w.cell? ⟨(a.add (i * 7)).block, (a.add (i * 7)).off + 2, none⟩ = some (.slice q.PA q.pn q.pc) ∧ w.cell? ⟨(a.add (i * 7)).block, (a.add (i * 7)).off + 3, none⟩ = some (.int .u64 q.km) ∧ w.cell? ⟨(a.add (i * 7)).block, (a.add (i * 7)).off + 4, none⟩ = some (.int .i64 q.lm) ∧ w.cell? ⟨(a.add (i * 7)).block, (a.add (i * 7)).off + 5, none⟩ = some (.int .i64 q.mo) ∧ w.cell? ⟨(a.add (i * 7)).block, (a.add (i * 7)).off + 6, none⟩ = some (.int .i64 q.wi)) (fun i hi => by
      obtain ⟨cs', hc', ht'⟩ := he i (by omega)
      rw [h7] at hc'
      obtain ⟨q, rfl⟩ := open_rule ht'
      obtain ⟨_, _, hcell⟩ := World.cells?_some hc'
      refine ⟨q, ?_, ?_, ?_, ?_, ?_, ?_, ?_⟩
      · have := hcell 0 (by omega); simpa [Addr.add] using this
      · have := hcell 1 (by omega); simpa [Addr.add] using this
      · have := hcell 2 (by omega); simpa [Addr.add] using this
      · have := hcell 3 (by omega); simpa [Addr.add] using this
      · have := hcell 4 (by omega); simpa [Addr.add] using this
      · have := hcell 5 (by omega); simpa [Addr.add] using this
      · have := hcell 6 (by omega); simpa [Addr.add] using this)
    refine ⟨some a, n, c, (List.range n).map q, rfl, by simp, hl, hm, fun j hj => ?_⟩
    have hj' : j < n := by simpa using hj
    obtain ⟨h0, h1, h2, h3, h4, h5, h6⟩ := hq j hj'
    have hb := cell_lt h0
    rw [block_of_add] at hb
    exact ⟨a, rfl, hb, by rw [h0]; simp, by rw [h1]; simp, by rw [h2]; simp, by rw [h3]; simp, by rw [h4]; simp, by rw [h5]; simp, by rw [h6]; simp⟩
set_option maxRecDepth 100000 in
theorem open_ints17 (hval : Value.okWide Try.prog w r b0 37 v) (h : DataW.Trod enc Try.prog w base sp hd 37 v d p) :
    ∃ A n c l, v = .slice A n c ∧ l.length = n ∧ n ≤ c ∧ c ≤ maxLen ∧ SI w w.heap.size .i64 A l := by
  have h1 : Try.prog.cellsOf 3 = 1 := by kernel_rfl
  obtain ⟨A, n, c, rfl⟩ := okWide_slice Try.underlying37 hval
  obtain ⟨fuel, hf⟩ := h
  rcases open_slice Try.underlying37 hf with ⟨hcs, _⟩ | ⟨a, len, cap, m, n', D, Pl, hcs, _, hl, hm, hmm, _, he⟩
  · simp [Value.cells] at hcs
    obtain ⟨rfl, rfl, rfl⟩ := hcs
    exact ⟨none, 0, 0, [], rfl, rfl, Nat.le_refl _, by unfold maxLen; omega, fun j hj => by simp at hj⟩
  · simp [Value.cells] at hcs
    obtain ⟨rfl, rfl, rfl⟩ := hcs
    have hnm : n ≤ m := by rw [hmm]; split <;> omega
    obtain ⟨q, hq⟩ := choose_lt (n := n) (p := fun i (q : Int) => w.cell? (a.add i) = some (.int .i64 q)) (fun i hi => by
      obtain ⟨cs', hc', ht'⟩ := he i (by omega)
      rw [h1, Nat.mul_one] at hc'
      obtain ⟨x, e, _, _⟩ := DataW.trod_int Try.underlying3 ht'
      subst e
      obtain ⟨_, _, hcell⟩ := World.cells?_some hc'
      refine ⟨x, ?_⟩
      have := hcell 0 (by omega); simpa [Addr.add] using this)
    refine ⟨some a, n, c, (List.range n).map q, rfl, by simp, hl, hm, fun j hj => ?_⟩
    have hj' : j < n := by simpa using hj
    have h0 := hq j hj'
    have hb := cell_lt h0
    rw [block_of_add] at hb
    exact ⟨a, rfl, hb, by rw [h0]; simp [hj']⟩
end
end Go.Proofs.Ytnjmhijfaijopaa

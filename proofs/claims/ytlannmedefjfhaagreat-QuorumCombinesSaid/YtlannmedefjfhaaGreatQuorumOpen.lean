/- A crew, and a share, that came in: opened. -/
import Derived.Test.YtlannmedefjfhaaGreatOpen
import Derived.Test.YtlannmedefjfhaaGreatShareOpen
import Derived.ChangeSame
namespace Go.Proofs.YtlannmedefjfhaaGreat
open Go.ChangeShapes Go.WideShapes Go.ChangeAt Go.RowKit Go.Deep Gs
set_option linter.unusedVariables false

section
variable {H : Type} {enc : TypeId × Value → H} {P : Program} {w : World} {base b0 : Nat} {sp : Nat → Bool} {hd : Bool} {r : Reach} {v : Value} {d : DataW H} {p : List MemPlace}
theorem trod_four {t : TypeId} {f0 f1 f2 f3 : Field} {fuel : Nat} {cs : List Value} {x : DataW H × List MemPlace} (ht : P.underlying t = some (.struct #[f0, f1, f2, f3])) (h : DataW.trod enc P w base sp hd fuel t cs = some x) :
    ∃ y0 y1 y2 y3 n, cs.length = P.cellsOf t ∧ DataW.trod enc P w base sp hd n f0.type ((cs.drop f0.offset).take (P.cellsOf f0.type)) = some y0 ∧
      DataW.trod enc P w base sp hd n f1.type ((cs.drop f1.offset).take (P.cellsOf f1.type)) = some y1 ∧ DataW.trod enc P w base sp hd n f2.type ((cs.drop f2.offset).take (P.cellsOf f2.type)) = some y2 ∧ DataW.trod enc P w base sp hd n f3.type ((cs.drop f3.offset).take (P.cellsOf f3.type)) = some y3 := by
  obtain ⟨xs, n, _, rfl, hl, hlen, hf⟩ := DataW.trod_struct ht h
  match xs, hlen with
  | [y0, y1, y2, y3], _ => exact ⟨y0, y1, y2, y3, n, hl, by simpa using hf 0 f0 rfl, by simpa using hf 1 f1 rfl, by simpa using hf 2 f2 rfl, by simpa using hf 3 f3 rfl⟩
theorem open_i64_at {n : Nat} {x : Value} {y : DataW H × List MemPlace} (h : DataW.trod enc Tryz.prog w base sp hd n 3 [x] = some y) : ∃ a, x = .int .i64 a := by
  obtain ⟨a, e, _, _⟩ := DataW.trod_int Tryz.underlying3 h
  simp at e
  exact ⟨a, e⟩
set_option maxRecDepth 100000 in
theorem open_shares_at {fuel : Nat} {x : Value} {y : DataW H × List MemPlace} (hf : DataW.trod enc Tryz.prog w base sp hd fuel 24 [x] = some y) :
    ∃ A n c l, x = .slice A n c ∧ l.length = n ∧ n ≤ c ∧ c ≤ maxLen ∧ SS w w.heap.size A l ∧ ∀ p ∈ l, 0 ≤ p.2 ∧ p.2 < 18446744073709551616 := by
  rcases open_slice_pairs Tryz.underlying24 Tryz.underlying37 (by kernel_rfl) rfl rfl (by kernel_rfl) (by kernel_rfl) hf with ⟨hcs, _⟩ | ⟨a, n, c, m, n', V0, V1, D0, D1, P0, P1, hcs, _, hl, hm, hmm, _, he⟩
  · simp at hcs
    subst hcs
    exact ⟨none, 0, 0, [], rfl, rfl, Nat.le_refl _, by unfold maxLen; omega, fun j hj => by simp at hj, fun p hp => by simp at hp⟩
  · simp at hcs
    subst hcs
    have hnm : n ≤ m := by rw [hmm]; split <;> omega
    obtain ⟨q, hq⟩ := choose_lt (n := n) (p := fun i (q : Int × Int) => w.cell? (a.add (i * 2)) = some (.int .i64 q.1) ∧ w.cell? (a.add (i * 2 + 1)) = some (.int .u64 q.2) ∧ IsU q.2) (fun i hi => by
      obtain ⟨h0, h1, t0, t1⟩ := he i (by omega)
      obtain ⟨x, e0, _, _⟩ := DataW.trod_int Tryz.underlying3 t0
      obtain ⟨y, e1, _, wy⟩ := DataW.trod_int Tryz.underlying23 t1
      simp at e0 e1
      exact ⟨(x, y), by rw [h0, e0], by rw [h1, e1], isU_wf wy⟩)
    refine ⟨some a, n, c, (List.range n).map q, rfl, by simp, hl, hm, fun j hj => ?_, fun z hz => ?_⟩
    · have hj' : j < n := by simpa using hj
      obtain ⟨h0, h1, _⟩ := hq j hj'
      have hb := cell_lt h0
      rw [block_of_add] at hb
      refine ⟨a, rfl, hb, ?_, ?_⟩
      · rw [h0]; simp
      · rw [add_one_off, h1]; simp
    · obtain ⟨j, hj, rfl⟩ := List.mem_map.1 hz
      obtain ⟨_, _, hu⟩ := hq j (List.mem_range.1 hj)
      exact ⟨hu.1, hu.2⟩
set_option maxRecDepth 100000 in
theorem open_share (hval : Value.okWide Tryz.prog w r b0 37 v) (h : DataW.Trod enc Tryz.prog w base sp hd 37 v d p) :
    ∃ x : Int × Int, v = .agg #[.int .i64 x.1, .int .u64 x.2] ∧ IsU x.2 := by
  obtain ⟨cs, rfl, hsz⟩ := okWide_struct Tryz.underlying37 hval
  have h3 : cs.size = 2 := hsz.trans (by kernel_rfl)
  have he : Tryz.prog.cellsOf 23 = 1 := by kernel_rfl
  have hi : Tryz.prog.cellsOf 3 = 1 := by kernel_rfl
  obtain ⟨fuel, hf⟩ := h
  obtain ⟨y0, y1, n, _, _, e0, e1⟩ := trod_struct2 Tryz.underlying37 hf
  obtain ⟨l⟩ := cs
  match l, h3 with
  | [x, y], _ =>
    obtain ⟨a, rfl⟩ := open_i64_at (x := x) (by simpa [Value.cells, hi] using e0)
    obtain ⟨b, rfl, ub⟩ := open_u64_at (x := y) (by simpa [Value.cells, he] using e1)
    exact ⟨(a, b), rfl, ub⟩
set_option maxRecDepth 100000 in
theorem open_crew (hval : Value.okWide Tryz.prog w r b0 26 v) (h : DataW.Trod enc Tryz.prog w base sp hd 26 v d p) :
    ∃ (T N K : Int) (A : Option Addr) (n c : Nat) (l : List (Int × Int)), v = .agg #[.int .i64 T, .int .i64 N, .int .u64 K, .slice A n c] ∧ IsU K ∧ l.length = n ∧ n ≤ c ∧ c ≤ maxLen ∧ SS w w.heap.size A l ∧ ∀ p ∈ l, 0 ≤ p.2 ∧ p.2 < 18446744073709551616 := by
  obtain ⟨cs, rfl, hsz⟩ := okWide_struct Tryz.underlying26 hval
  have h3 : cs.size = 4 := hsz.trans (by kernel_rfl)
  have he : Tryz.prog.cellsOf 23 = 1 := by kernel_rfl
  have hi : Tryz.prog.cellsOf 3 = 1 := by kernel_rfl
  have hs : Tryz.prog.cellsOf 24 = 1 := by kernel_rfl
  obtain ⟨fuel, hf⟩ := h
  obtain ⟨y0, y1, y2, y3, n, _, e0, e1, e2, e3⟩ := trod_four Tryz.underlying26 hf
  obtain ⟨l⟩ := cs
  match l, h3 with
  | [x, y, z, u], _ =>
    obtain ⟨a, rfl⟩ := open_i64_at (x := x) (by simpa [Value.cells, hi] using e0)
    obtain ⟨b, rfl⟩ := open_i64_at (x := y) (by simpa [Value.cells, hi] using e1)
    obtain ⟨k, rfl, uk⟩ := open_u64_at (x := z) (by simpa [Value.cells, he] using e2)
    obtain ⟨A, m, c, l, rfl, h1, h2, h3, h4, h5⟩ := open_shares_at (x := u) (by simpa [Value.cells, hs] using e3)
    exact ⟨a, b, k, A, m, c, l, rfl, uk, h1, h2, h3, h4, h5⟩
end
end Go.Proofs.YtlannmedefjfhaaGreat

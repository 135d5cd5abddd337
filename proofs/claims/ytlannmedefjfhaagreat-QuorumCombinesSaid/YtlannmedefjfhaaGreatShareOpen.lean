/- Shares, and whole numbers, in slices that came in: opened. -/
import Derived.Test.YtlannmedefjfhaaGreatOpen
import Derived.Test.YtlannmedefjfhaaGreatShareLib
import Derived.Deep.SlicePairs
namespace Go.Proofs.YtlannmedefjfhaaGreat
open Go.ChangeShapes Go.WideShapes Go.ChangeAt Go.RowKit Go.Deep Gs
set_option linter.unusedVariables false

section
variable {H : Type} {enc : TypeId × Value → H} {w : World} {base b0 : Nat} {sp : Nat → Bool} {hd : Bool} {r : Reach} {v : Value} {d : DataW H} {p : List MemPlace}
set_option maxRecDepth 100000 in
theorem open_ids (hval : Value.okWide Tryz.prog w r b0 85 v) (h : DataW.Trod enc Tryz.prog w base (fun _ => true) hd 85 v d p) :
    ∃ A n c xs, v = .slice A n c ∧ IsRow .i64 w A n c xs := by
  obtain ⟨A, n, c, rfl⟩ := okWide_slice Tryz.underlying85 hval
  obtain ⟨fuel, hf⟩ := h
  rcases open_ints Tryz.underlying85 Tryz.underlying3 (by kernel_rfl) hf with ⟨hcs, _⟩ | ⟨x, l, c', zs, hcs, _, hl, hm, hz, _, hcell, hwz⟩
  · simp [Value.cells] at hcs
    obtain ⟨rfl, rfl, rfl⟩ := hcs
    exact ⟨none, 0, 0, [], rfl, .inl ⟨rfl, rfl, rfl, rfl⟩⟩
  · simp [Value.cells] at hcs
    obtain ⟨rfl, rfl, rfl⟩ := hcs
    exact ⟨_, _, _, zs, rfl, .inr ⟨_, rfl, hl, hm, by simpa using hz, hcell, hwz⟩⟩
theorem add_one_off (a : Addr) (n : Nat) : (⟨(a.add n).block, (a.add n).off + 1, none⟩ : Addr) = a.add (n + 1) := by
  unfold Addr.add
  by_cases h : n = 0
  · subst h; simp
  · simp [h, Nat.add_assoc]
set_option maxRecDepth 100000 in
theorem open_shares (hval : Value.okWide Tryz.prog w r b0 24 v) (h : DataW.Trod enc Tryz.prog w base sp hd 24 v d p) :
    ∃ A n c l, v = .slice A n c ∧ l.length = n ∧ n ≤ c ∧ c ≤ maxLen ∧ SS w w.heap.size A l ∧ ∀ p ∈ l, 0 ≤ p.2 ∧ p.2 < 18446744073709551616 := by
  obtain ⟨A, n, c, rfl⟩ := okWide_slice Tryz.underlying24 hval
  obtain ⟨fuel, hf⟩ := h
  rcases open_slice_pairs Tryz.underlying24 Tryz.underlying37 (by kernel_rfl) rfl rfl (by kernel_rfl) (by kernel_rfl) hf with ⟨hcs, _⟩ | ⟨a, len, cap, m, n', V0, V1, D0, D1, P0, P1, hcs, _, hl, hm, hmm, _, he⟩
  · simp [Value.cells] at hcs
    obtain ⟨rfl, rfl, rfl⟩ := hcs
    exact ⟨none, 0, 0, [], rfl, rfl, Nat.le_refl _, by unfold maxLen; omega, fun j hj => by simp at hj, fun p hp => by simp at hp⟩
  · simp [Value.cells] at hcs
    obtain ⟨rfl, rfl, rfl⟩ := hcs
    have hnm : n ≤ m := by rw [hmm]; split <;> omega
    obtain ⟨q, hq⟩ := choose_lt (n := n) (p := fun i (q : Int × Int) => w.cell? (a.add (i * 2)) = some (.int .i64 q.1) ∧ w.cell? (a.add (i * 2 + 1)) = some (.int .u64 q.2) ∧ IsU q.2) (fun i hi => by
      obtain ⟨h0, h1, t0, t1⟩ := he i (by omega)
      obtain ⟨x, e0, _, _⟩ := DataW.trod_int Tryz.underlying3 t0
      obtain ⟨y, e1, _, wy⟩ := DataW.trod_int Tryz.underlying23 t1
      simp at e0 e1
      exact ⟨(x, y), by rw [h0, e0], by rw [h1, e1], isU_wf wy⟩)
    refine ⟨some a, n, c, (List.range n).map q, rfl, by simp, hl, hm, fun j hj => ?_, fun z hz => ?_⟩
    · have hj' : j < n := by simpa using hj
      obtain ⟨h0, h1, _⟩ := hq j hj'
      have hb := cell_lt h0
      rw [block_of_add] at hb
      refine ⟨a, rfl, hb, ?_, ?_⟩
      · rw [h0]; simp
      · rw [add_one_off, h1]; simp
    · obtain ⟨j, hj, rfl⟩ := List.mem_map.1 hz
      obtain ⟨_, _, hu⟩ := hq j (List.mem_range.1 hj)
      exact ⟨hu.1, hu.2⟩
end
end Go.Proofs.YtlannmedefjfhaaGreat

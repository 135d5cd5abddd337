/- Parts that came in, opened. -/
import Derived.Test.YtjcanehlnggffaaHashG
import Derived.OpenShut
import Derived.Deep.Matrix
import Derived.SizedLaws
namespace Go.Proofs.Ytjcanehlnggffaa
open Go.ChangeShapes Go.WideShapes Go.ChangeAt Go.RowKit Gs Go.Deep
set_option linter.unusedVariables false

theorem bytes_1 : Try.prog.bytesOf 5 = 1 := by kernel_rfl
theorem bytes_24 : Try.prog.bytesOf 27 = 24 := by kernel_rfl
theorem weightsAll_mem {H : Type} {P : Program} {e : TypeId} : ∀ {L : List (DataW H)} {d : DataW H}, d ∈ L → ∀ n ∈ d.weights P e, n ∈ DataW.weightsAll P e L
  | x :: r, d, h, n, hn => by
    unfold DataW.weightsAll
    rcases List.mem_cons.1 h with rfl | h
    · exact List.mem_append.2 (.inl hn)
    · exact List.mem_append.2 (.inr (weightsAll_mem h n hn))

section
variable {H : Type} {enc : TypeId × Value → H} {w : World} {base b0 : Nat} {hd : Bool} {r : Reach} {v : Value} {d : DataW H} {p : List MemPlace}
theorem open_parts (hval : Value.okWide Try.prog w r b0 32 v) (h : DataW.Trod enc Try.prog w base (fun _ => true) hd 32 v d p) (hw : ∀ n ∈ d.weights Try.prog 32, n ≤ reachBytes) :
    ∃ A n c ps, v = .slice A n c ∧ ps.length = n ∧ n ≤ c ∧ n ≤ 140737488351232 ∧ SP w w.heap.size A ps ∧ ∀ p ∈ ps, p.length ≤ 140737488351232 ∧ ∀ x ∈ p, 0 ≤ x ∧ x < 256 := by
  obtain ⟨A, n, c, rfl⟩ := okWide_slice Try.underlying32 hval
  obtain ⟨fuel, hf⟩ := h
  rcases open_int_rows Try.underlying32 Try.underlying27 Try.underlying5 (by kernel_rfl) (by kernel_rfl) hf with ⟨hcs, _⟩ | ⟨a, len, cap, AA, L, C, Z, hcs, _, hl, hm, hx, hrow⟩
  · simp [Value.cells] at hcs
    obtain ⟨rfl, rfl, rfl⟩ := hcs
    exact ⟨none, 0, 0, [], rfl, rfl, Nat.le_refl _, by omega, fun j hj => by simp at hj, fun p hp => by simp at hp⟩
  · simp [Value.cells] at hcs
    obtain ⟨rfl, rfl, rfl⟩ := hcs
    obtain ⟨hd1, _⟩ := Prod.mk.inj hx
    rw [hd1] at hw
    have hw0 : (n + (c - n)) * 24 ≤ reachBytes := by
      have := hw ((n + (c - n)) * 24) (by simp [DataW.weights, Try.underlying32, bytes_24])
      exact this
    have hC : ∀ j, j < n → C j ≤ reachBytes := by
      intro j hj
      obtain ⟨_, hLC, _, hZ, _, hno, _⟩ := hrow j (by omega)
      cases hA : AA j with
      | none => rw [hno hA]; exact Nat.zero_le _
      | some a' =>
        refine hw (C j) ?_
        have hmem : (intRow (H := H) .u8 (AA j) (L j) (Z j)) ∈ (List.range n).map fun r => intRow (H := H) .u8 (AA r) (L r) (Z r) := List.mem_map.2 ⟨j, List.mem_range.2 hj, rfl⟩
        have hin : C j ∈ (intRow (H := H) .u8 (AA j) (L j) (Z j)).weights Try.prog 27 := by
          unfold intRow
          rw [hA]
          simp only [DataW.weights, Try.underlying27, bytes_1]
          refine List.mem_cons.2 (.inl ?_)
          simp [lits]
          omega
        simp only [DataW.weights, Try.underlying32]
        exact List.mem_cons.2 (.inr (List.mem_append.2 (.inl (weightsAll_mem hmem _ hin))))
    have hreach : reachBytes = 140737488351232 := by decide
    rw [hreach] at hw0 hC
    refine ⟨some a, n, c, (List.range n).map fun j => (Z j).take (L j), rfl, by simp, hl, by omega, fun j hj => ?_, fun q hq => ?_⟩
    · have hj' : j < n := by simpa using hj
      obtain ⟨hcell, hLC, hCm, hZ, hwf, hno, hrc⟩ := hrow j (by omega)
      have hlt : (a.add j).block < w.heap.size := cell_lt hcell
      rw [block_of_add] at hlt
      have hlen : ((Z j).take (L j)).length = L j := by rw [List.length_take, hZ]; omega
      refine ⟨a, rfl, hlt, AA j, C j, ?_, ?_, hCm, ?_⟩
      · simp only [List.getElem_map, List.getElem_range]
        rw [hlen]; exact hcell
      · simp only [List.getElem_map, List.getElem_range]
        rw [hlen]; exact hLC
      · intro t ht
        simp only [List.getElem_map, List.getElem_range] at ht ⊢
        rw [hlen] at ht
        cases hA : AA j with
        | none => have := hno hA; omega
        | some a' =>
          have hc2 := (hrc a' hA).2 t (by omega)
          refine ⟨a', rfl, ?_, ?_⟩
          · have := cell_lt hc2
            rwa [block_of_add] at this
          · rw [hc2, List.getElem?_take_of_lt ht, List.getD_eq_getElem?_getD]
    · obtain ⟨j, hj, rfl⟩ := List.mem_map.1 hq
      have hj' : j < n := List.mem_range.1 hj
      obtain ⟨hcell, hLC, hCm, hZ, hwf, hno, hrc⟩ := hrow j (by omega)
      refine ⟨?_, fun x hx => u8_wf (hwf x (List.mem_of_mem_take hx))⟩
      have := hC j hj'
      rw [List.length_take, hZ]
      omega
end
end Go.Proofs.Ytjcanehlnggffaa

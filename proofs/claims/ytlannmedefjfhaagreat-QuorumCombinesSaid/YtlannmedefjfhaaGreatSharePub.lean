/- Plain: public shares of a secret fit. -/
import Derived.Test.YtlannmedefjfhaaGreatShareGood
namespace Go.Proofs.YtlannmedefjfhaaGreat
open Go.ChangeShapes Go.WideShapes Go.ChangeAt Go.RowKit Gs
set_option linter.unusedVariables false

theorem csplit_good (c : List Int) (N : Nat) : Good c N (csplit c N) := by
  by_cases h : 1 ≤ N
  · have e : picks (csplit c N) 0 N = csplit c N := by
      rw [picks_eq c 0 N N h]
      refine List.map_congr_left fun i hi => ?_
      rw [Nat.zero_add, Nat.mod_eq_of_lt (by simpa using hi)]
    rw [← e]
    exact picks_good c 0 N N h (Nat.le_refl _)
  · obtain rfl : N = 0 := by omega
    exact ⟨by simp [csplit], by simp [csplit]⟩
theorem Good.take {c : List Int} {N : Nat} {S : List (Int × Int)} (h : Good c N S) (T : Nat) : Good c N (S.take T) :=
  ⟨fun p hp => h.all p (List.mem_of_mem_take hp), by rw [List.map_take]; exact h.apart.sublist (List.take_sublist _ _)⟩
theorem spubs_fst (l : List (Int × Int)) : (spubs l).map Prod.fst = l.map Prod.fst := by unfold spubs; rw [List.map_map]; rfl
theorem spubs_length (l : List (Int × Int)) : (spubs l).length = l.length := by simp [spubs]
theorem spubs_get (l : List (Int × Int)) (i : Nat) (h : i < (spubs l).length) : (spubs l)[i] = ((l[i]'(by rw [spubs_length] at h; exact h)).1, qpow 4 (l[i]'(by rw [spubs_length] at h; exact h)).2) := by simp [spubs]
theorem spubs_u (l : List (Int × Int)) : ∀ p ∈ spubs l, 0 ≤ p.2 ∧ p.2 < 18446744073709551616 := fun p hp => by
  obtain ⟨q, _, rfl⟩ := List.mem_map.1 hp
  have := qpow_bound 4 q.2
  exact ⟨this.1, by show qpow 4 q.2 < _; omega⟩
theorem picks_pub (l : List (Int × Int)) (F M : Nat) (h : 1 ≤ l.length) : picks (spubs l) F M = spubs (picks l F M) := by
  unfold picks
  show _ = ((List.range M).map _).map _
  rw [List.map_map]
  refine List.map_congr_left fun i _ => ?_
  have h1 : (F + i) % l.length < l.length := Nat.mod_lt _ (by omega)
  have h2 : (F + i) % (spubs l).length < (spubs l).length := by rw [spubs_length]; exact h1
  rw [List.getElem?_eq_getElem h2, spubs_get]
  simp only [spubs_length, Function.comp, List.getElem?_eq_getElem h1, Option.getD_some]
/-- The public shares of a secret fit. -/
theorem pub_check {c : List Int} {T N : Nat} (hc : c.length = T) (t1 : 1 ≤ T) (tn : T ≤ N) (n7 : N ≤ 7) {ids : List Int} (hids : (spubs (csplit c N)).map Prod.fst = ids) : ¬ BadArg (T : Int) ids ∧ Grp (spubs (csplit c N)) ∧ ¬ ((spubs (csplit c N)).length : Int) < T ∧ Fits ((T : Int).toNat) ids (spubs (csplit c N)) := by
  have hg := csplit_good c N
  rw [spubs_fst] at hids
  subst hids
  have hr := hg.right n7 (by rw [csplit_length]; omega) (by rw [csplit_length]; omega)
  refine ⟨?_, ?_, ?_, ?_⟩
  · rintro (h | h | ⟨_, h⟩)
    · omega
    · omega
    · exact h hr
  · intro i h
    rw [spubs_get]
    have := hg.u _ (List.getElem_mem (show i < (csplit c N).length by rw [spubs_length] at h; exact h))
    exact qin_base this.1
  · rw [spubs_length, csplit_length]; omega
  · intro i h hi
    have hT : (T : Int).toNat = T := by omega
    rw [hT] at hi ⊢
    have hi' : i < (csplit c N).length := by rw [spubs_length] at h; exact h
    have hgt := hg.take T
    have hl : ((csplit c N).take T).length = T := by rw [List.length_take, csplit_length]; omega
    have e : (spubs (csplit c N)).take T = spubs ((csplit c N).take T) := by unfold spubs; rw [List.map_take]
    rw [e, spubs_get, ← List.map_take]
    show qat _ _ (((csplit c N).take T).map fun p => (p.1, qpow 4 p.2)) = _
    rw [qat_base _ _ _ (fun p hp => (hgt.u p hp).1), hgt.jat n7 (by omega) (by omega) (by omega)]
    show qpow 4 (pval (csplit c N)[i].1 c) = qpow 4 (csplit c N)[i].2
    rw [(hg.all _ (List.getElem_mem hi')).2.2]
end Go.Proofs.YtlannmedefjfhaaGreat

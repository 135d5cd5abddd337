/- Plain: one share that is another one. -/
import Derived.Test.YtlannmedefjfhaaGreatSharePub
namespace Go.Proofs.YtlannmedefjfhaaGreat
open Go.ChangeShapes Go.WideShapes Go.ChangeAt Go.RowKit Gs
set_option linter.unusedVariables false

theorem jI_set (ids : List Int) (x : Int) : ∀ (l : List (Int × Int)) (k : Nat) (h : k < l.length) (o : Int), jI ids x (l.set k (l[k].1, o)) = jI ids x l + (o - l[k].2) * wI ids l[k].1 x
  | p :: l, 0, _, o => by
    simp only [List.set_cons_zero, List.getElem_cons_zero, jI_cons]
    grind
  | p :: l, k + 1, h, o => by
    have ih := jI_set ids x l k (by simpa using h) o
    simp only [List.set_cons_succ, List.getElem_cons_succ, jI_cons, ih]
    grind
theorem set_fst (l : List (Int × Int)) (k : Nat) (h : k < l.length) (o : Int) : (l.set k (l[k].1, o)).map Prod.fst = l.map Prod.fst := by
  rw [List.map_set]
  refine List.ext_getElem (by simp) fun i h1 h2 => ?_
  rw [List.getElem_set]
  split
  · rename_i e; subst e; simp
  · rfl
theorem spubs_set (l : List (Int × Int)) (k : Nat) (i o : Int) : spubs (l.set k (i, o)) = (spubs l).set k (i, qpow 4 o) := by
  unfold spubs; rw [List.map_set]
theorem base_zz {a b : Int} (ha : 0 ≤ a) (hb : 0 ≤ b) : qpow 4 a = qpow 4 b ↔ Z (a - b) := by
  rw [base_eq ha hb, z_iff]; rfl
/-- One public share that is another one, if there is one more than are enough, is found out. -/
theorem spoilt {c : List Int} {T N : Nat} (hc : c.length = T) (t1 : 1 ≤ T) (tn : T < N) (n7 : N ≤ 7) {ids : List Int} (hids : (spubs (csplit c N)).map Prod.fst = ids) (k : Nat) (hk : k < (csplit c N).length) (o : Int) (ho : 0 ≤ o) :
    Fits T ids ((spubs (csplit c N)).set k ((csplit c N)[k].1, qpow 4 o)) ↔ qpow 4 (csplit c N)[k].2 = qpow 4 o := by
  have hg := csplit_good c N
  have hp := pub_check hc t1 (Nat.le_of_lt tn) n7 hids
  have hT : (T : Int).toNat = T := by omega
  rw [hT] at hp
  have hN := csplit_length c N
  have hkP : k < (spubs (csplit c N)).length := by rw [spubs_length]; exact hk
  have hgk := spubs_get (csplit c N) k hkP
  constructor
  · intro hf
    by_cases hkt : T ≤ k
    · have h1 := hf k (by simpa using hkP) hkt
      have h2 := hp.2.2.2 k hkP hkt
      rw [List.getElem_set_self, List.take_set_of_le hkt] at h1
      rw [hgk] at h2
      exact h2.symm.trans h1
    · have hkt : k < T := by omega
      have hTP : T < (spubs (csplit c N)).length := by rw [spubs_length, hN]; exact tn
      have hTl : T < (csplit c N).length := by rw [hN]; exact tn
      have h1 := hf T (by simpa using hTP) (Nat.le_refl _)
      have h2 := hp.2.2.2 T hTP (Nat.le_refl _)
      rw [List.getElem_set_ne (by omega)] at h1
      rw [← h2, List.take_set] at h1
      have e : (spubs (csplit c N)).take T = spubs ((csplit c N).take T) := by unfold spubs; rw [List.map_take]
      have hkt' : k < ((csplit c N).take T).length := by rw [List.length_take, hN]; omega
      have e2 : ((csplit c N).take T)[k] = (csplit c N)[k] := List.getElem_take
      rw [e, ← spubs_set ((csplit c N).take T) k (csplit c N)[k].1 o, spubs_get (csplit c N) T hTP] at h1
      have hu := hg.u
      generalize hJ : ids.take T = J at h1
      have hJ' : J = ((csplit c N).take T).map Prod.fst := by rw [← hJ, ← hids, spubs_fst, List.map_take]
      change qat J _ ((((csplit c N).take T).set k ((csplit c N)[k].1, o)).map fun p => (p.1, qpow 4 p.2)) = qat J _ (((csplit c N).take T).map fun p => (p.1, qpow 4 p.2)) at h1
      rw [qat_base _ _ _ (fun p hp => by
        rcases List.mem_or_eq_of_mem_set hp with g | g
        · exact (hu p (List.mem_of_mem_take g)).1
        · rw [g]; exact ho), qat_base _ _ _ (fun p hp => (hu p (List.mem_of_mem_take hp)).1), base_zz (jat_rb _ _ _).1 (jat_rb _ _ _).1] at h1
      have h3 : Z (jI J (csplit c N)[T].1 (((csplit c N).take T).set k ((csplit c N)[k].1, o)) - jI J (csplit c N)[T].1 ((csplit c N).take T)) :=
        ((h1.sub (jat_z J (csplit c N)[T].1 (((csplit c N).take T).set k ((csplit c N)[k].1, o)))).add (jat_z J (csplit c N)[T].1 ((csplit c N).take T))).cast (by dsimp only; omega)
      have h4 := jI_set J (csplit c N)[T].1 ((csplit c N).take T) k hkt' o
      rw [e2] at h4
      rw [h4] at h3
      have h5 : Z ((o - (csplit c N)[k].2) * wI J (csplit c N)[k].1 (csplit c N)[T].1) := h3.cast (by omega)
      rcases z_euclid h5 with h6 | h6
      · exact ((base_zz ho (hu _ (List.getElem_mem hk)).1).2 h6).symm
      · exfalso
        have hap := right_apart (hg.right n7 (by omega) (by omega))
        have hmem : ∀ (i : Nat) (h : i < (csplit c N).length), (csplit c N)[i].1 ∈ (csplit c N).map Prod.fst := fun i h => List.mem_map_of_mem (List.getElem_mem h)
        refine wI_ne _ _ J (fun y hy hne => ?_) h6
        rw [hJ'] at hy
        obtain ⟨q, hq, rfl⟩ := List.mem_map.1 hy
        obtain ⟨i, hi, rfl⟩ := List.getElem_of_mem hq
        have hi' : i < T := by rw [List.length_take, hN] at hi; omega
        have hi2 : i < (csplit c N).length := by omega
        rw [List.getElem_take] at hne ⊢
        refine ⟨apart_of hap (hmem k hk) (hmem i hi2) (fun e => hne e.symm), apart_of hap (hmem T hTl) (hmem i hi2) (fun e => ?_)⟩
        rw [csplit_get, csplit_get] at e
        have e' : (T : Int) + 1 = (i : Int) + 1 := e
        omega
  · intro he
    have e : (spubs (csplit c N)).set k ((csplit c N)[k].1, qpow 4 o) = spubs (csplit c N) := by
      rw [← he, ← hgk]
      exact List.set_getElem_self _
    rw [e]
    exact hp.2.2.2
end Go.Proofs.YtlannmedefjfhaaGreat

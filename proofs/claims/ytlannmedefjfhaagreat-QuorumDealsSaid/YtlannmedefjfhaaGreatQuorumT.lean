/- Plain: a crew that is dealt may be; whoever is chosen of it has a right part; another part is found out. -/
import Derived.Test.YtlannmedefjfhaaGreatQuorumSpec
namespace Go.Proofs.YtlannmedefjfhaaGreat
open Go.ChangeShapes Go.WideShapes Go.ChangeAt Go.RowKit Gs
set_option linter.unusedVariables false

theorem bit_and_one (n : Int) : bits .and .i64 n 1 = n % 2 := by
  have h1 : (BitVec.ofInt 64 1).toNat = 2 ^ 1 - 1 := by decide
  have key : (BitVec.ofInt 64 n &&& BitVec.ofInt 64 1).toNat = (n % ((2 ^ 64 : Nat) : Int)).toNat % 2 ^ 1 := by
    rw [BitVec.toNat_and, BitVec.toNat_ofInt, h1, Nat.and_two_pow_sub_one_eq_mod]
  show IntKind.i64.wrap ((BitVec.ofInt 64 n &&& BitVec.ofInt 64 1).toNat : Nat) = n % 2
  rw [key, IntKind.wrap_i64]
  omega
/-- Whether somebody is chosen. -/
def bitAt (who : Int) (i : Nat) : Int := bits .and .i64 (who / 2 ^ i) 1
theorem bitAt_two (who : Int) (i : Nat) : bitAt who i = 0 ∨ bitAt who i = 1 := by unfold bitAt; rw [bit_and_one]; omega
def pickB (who : Int) (l : List (Int × Int)) : Nat → List (Int × Int)
  | 0 => []
  | k + 1 => if bitAt who k = 1 then pickB who l k ++ [l[k]?.getD (0, 0)] else pickB who l k
def sumB (who : Int) : Nat → Int
  | 0 => 0
  | k + 1 => sumB who k + bitAt who k
theorem pickB_yes {who : Int} {l : List (Int × Int)} (k : Nat) (hk : k < l.length) (h : bitAt who k = 1) : pickB who l (k + 1) = pickB who l k ++ [l[k]] := by
  show (if bitAt who k = 1 then _ else _) = _
  rw [if_pos h, List.getElem?_eq_getElem hk]; rfl
theorem pickB_no {who : Int} {l : List (Int × Int)} (k : Nat) (h : bitAt who k ≠ 1) : pickB who l (k + 1) = pickB who l k := if_neg h
theorem pickB_len (who : Int) (l : List (Int × Int)) : ∀ k, ((pickB who l k).length : Int) = sumB who k
  | 0 => rfl
  | k + 1 => by
    have ih := pickB_len who l k
    show ((if bitAt who k = 1 then pickB who l k ++ [l[k]?.getD (0, 0)] else pickB who l k).length : Int) = sumB who k + bitAt who k
    rcases bitAt_two who k with h | h
    · rw [if_neg (by omega), h]; omega
    · rw [if_pos h, h, List.length_append, List.length_singleton]; omega
theorem sumB_b (who : Int) : ∀ k, 0 ≤ sumB who k ∧ sumB who k ≤ k
  | 0 => ⟨by show (0 : Int) ≤ 0; omega, by show (0 : Int) ≤ ((0 : Nat) : Int); omega⟩
  | k + 1 => by
    have ih := sumB_b who k
    have h := bitAt_two who k
    show 0 ≤ sumB who k + bitAt who k ∧ sumB who k + bitAt who k ≤ ((k + 1 : Nat) : Int)
    omega
theorem pickB_le (who : Int) (l : List (Int × Int)) (k : Nat) : (pickB who l k).length ≤ k := by
  have h1 := pickB_len who l k
  have h2 := sumB_b who k
  omega
theorem pickB_mem {who : Int} {c : List Int} {N : Nat} : ∀ {k : Nat}, k ≤ N → ∀ p ∈ pickB who (csplit c N) k, ∃ j : Nat, j < k ∧ p = ((j : Int) + 1, pval ((j : Int) + 1) c)
  | 0, _, p, h => by simp [pickB] at h
  | k + 1, hk, p, h => by
    by_cases hb : bitAt who k = 1
    · rw [pickB_yes k (by rw [csplit_length]; omega) hb, csplit_get] at h
      rcases List.mem_append.1 h with h | h
      · obtain ⟨j, hj, e⟩ := pickB_mem (by omega) p h
        exact ⟨j, by omega, e⟩
      · rw [List.mem_singleton] at h
        exact ⟨k, by omega, h⟩
    · rw [pickB_no k hb] at h
      obtain ⟨j, hj, e⟩ := pickB_mem (by omega) p h
      exact ⟨j, by omega, e⟩
theorem pickB_up {who : Int} {c : List Int} {N : Nat} : ∀ {k : Nat}, k ≤ N → (pickB who (csplit c N) k).Pairwise (fun a b => a.1 < b.1)
  | 0, _ => List.Pairwise.nil
  | k + 1, hk => by
    by_cases hb : bitAt who k = 1
    · rw [pickB_yes k (by rw [csplit_length]; omega) hb, csplit_get]
      refine List.pairwise_append.2 ⟨pickB_up (by omega), by simp, fun a ha b hb' => ?_⟩
      rw [List.mem_singleton] at hb'
      obtain ⟨j, hj, e⟩ := pickB_mem (by omega) a ha
      subst hb' e
      show (j : Int) + 1 < (k : Int) + 1
      omega
    · rw [pickB_no k hb]; exact pickB_up (by omega)
theorem pickB_good {who : Int} {c : List Int} {N k : Nat} (hk : k ≤ N) : Good c N (pickB who (csplit c N) k) :=
  ⟨fun p hp => by
    obtain ⟨j, hj, rfl⟩ := pickB_mem hk p hp
    exact ⟨by show 1 ≤ (j : Int) + 1; omega, by show (j : Int) + 1 ≤ N; omega, rfl⟩, by
    rw [List.pairwise_map]
    exact (pickB_up hk).imp (fun h e => by omega)⟩

theorem qin_qcom (x : Int × Int) (n : Int) (ms : List Int) : qin (qcom x n ms).2 = true := qin_base (by
  unfold qnonce
  have := hof_bound ⟨#[99, 111, 109, 109, 105, 116]⟩ [be x.2 8, be x.1 8, be n 8, ms] (m := 1152921504606845788) (by omega)
  omega)
theorem picked_commits {who : Int} {c : List Int} {N k : Nat} (hk : k ≤ N) (n : Int) (ms : List Int) : CommitsOk N ((pickB who (csplit c N) k).map fun x => qcom x n ms) := fun i hi => by
  have hi' : i < (pickB who (csplit c N) k).length := by simpa using hi
  rw [List.getElem_map]
  have h1 := (pickB_good (who := who) (c := c) hk).all _ (List.getElem_mem hi')
  refine ⟨⟨h1.1, h1.2.1, qin_qcom _ _ _⟩, fun j g => ?_⟩
  rw [List.getElem_map]
  exact List.pairwise_iff_getElem.1 (pickB_up hk) j i (by omega) hi' g
theorem picked_ids (S : List (Int × Int)) (n : Int) (ms : List Int) : (S.map fun x => qcom x n ms).map Prod.fst = S.map Prod.fst := by rw [List.map_map]; rfl

/-- A crew that is dealt may be, and its parts fit. -/
theorem dealt_crew {s : Int} {xs : List Int} {T N : Nat} (hs : Rb s) (t1 : 1 ≤ T) (tn : T ≤ N) (n7 : N ≤ 7) : CrewOk (T : Int) (N : Int) (qpow 4 s) (spubs (csplit (cpoly s xs T) N)) ∧ CrewFits (T : Int) (qpow 4 s) (spubs (csplit (cpoly s xs T) N)) := by
  have hg := csplit_good (cpoly s xs T) N
  obtain ⟨_, h2, _, h4⟩ := pub_check (cpoly_length s xs T) t1 tn n7 rfl
  have hgt := hg.take T
  have hl : ((csplit (cpoly s xs T) N).take T).length = T := by rw [List.length_take, csplit_length]; omega
  refine ⟨⟨by omega, by omega, by omega, qin_base hs.1, by rw [spubs_length, csplit_length], fun i hi => ⟨?_, h2 i hi⟩⟩, h4, ?_⟩
  · rw [spubs_get, csplit_get]
  · rw [show ((T : Int)).toNat = T by omega, spubs_fst, ← List.map_take, spubs_take]
    show qat _ _ (((csplit (cpoly s xs T) N).take T).map fun p => (p.1, qpow 4 p.2)) = _
    rw [qat_base _ _ _ (fun p hp => (hgt.u p hp).1), hgt.jat n7 (by omega) (by omega) (by rw [cpoly_length]; omega), cpoly_head xs t1 hs]
theorem dealt_zero {s : Int} {xs : List Int} {T N : Nat} (hs : Rb s) (t1 : 1 ≤ T) (tn : T ≤ N) (n7 : N ≤ 7) : crewF (T : Int) (N : Int) (qpow 4 s) (spubs (csplit (cpoly s xs T) N)) = 0 := by
  have h := dealt_crew (xs := xs) hs t1 tn n7
  exact (crewF_is _ _ _ _).2.2 h.1 h.2

/-- Part of a signer that is chosen. -/
def qpart (K : Int) (n : Int) (ms : List Int) (cs : List (Int × Int)) (x : Int × Int) : Int × Int := (x.1, qans K x n ms cs)
theorem qpart_rb (K n : Int) (ms : List Int) (cs : List (Int × Int)) (x : Int × Int) : Rb (qpart K n ms cs x).2 := radd_bound _ _
theorem picked_fits {who : Int} {c : List Int} {N : Nat} (n : Int) (ms : List Int) (K : Int) (x : Int × Int) (hx : x ∈ pickB who (csplit c N) N) :
    PartFits (chalF K ms ((pickB who (csplit c N) N).map fun x => qcom x n ms)) (((pickB who (csplit c N) N).map fun x => qcom x n ms).map Prod.fst) (spubs (csplit c N)) (cAt ((pickB who (csplit c N) N).map fun x => qcom x n ms) x.1) (qpart K n ms ((pickB who (csplit c N) N).map fun x => qcom x n ms) x) := by
  have hco := picked_commits (who := who) (c := c) (Nat.le_refl N) n ms
  obtain ⟨j, hj, hxe⟩ := pickB_mem (Nat.le_refl N) x hx
  have hmem : qcom x n ms ∈ (pickB who (csplit c N) N).map fun x => qcom x n ms := List.mem_map_of_mem hx
  obtain ⟨i, hi, e⟩ := List.getElem_of_mem hmem
  have hc : cAt ((pickB who (csplit c N) N).map fun x => qcom x n ms) x.1 = qcom x n ms := by
    have := cAt_eq hco i hi
    rw [e] at this
    exact this
  rw [hc]
  unfold PartFits qpart qans
  have hps : (spubs (csplit c N))[((qcom x n ms).1 - 1).toNat]?.getD (0, 0) = (x.1, qpow 4 x.2) := by
    have h1 : ((qcom x n ms).1 - 1).toNat = j := by
      show (x.1 - 1).toNat = j
      rw [hxe]
      show (((j : Int) + 1) - 1).toNat = j
      omega
    rw [h1, List.getElem?_eq_getElem (by rw [spubs_length, csplit_length]; exact hj), spubs_get, csplit_get, hxe]
    rfl
  rw [hps]
  have hx0 : 0 ≤ x.2 := by rw [hxe]; exact (pval_rb _ _).1
  have hm := rmul_bound (chalF K ms ((pickB who (csplit c N) N).map fun x => qcom x n ms)) (wat (((pickB who (csplit c N) N).map fun x => qcom x n ms).map Prod.fst) x.1 0)
  show qpow 4 (radd (qnonce x n ms) (rmul (rmul _ (wat _ x.1 0)) x.2)) = qmul (qpow 4 (qnonce x n ms)) (qpow (qpow 4 x.2) (rmul _ (wat _ x.1 0)))
  rw [base_add (by
    unfold qnonce
    have := hof_bound ⟨#[99, 111, 109, 109, 105, 116]⟩ [be x.2 8, be x.1 8, be n 8, ms] (m := 1152921504606845788) (by omega)
    omega) (rmul_bound _ _).1, rmul_comm _ x.2, base_mul hx0 hm.1]
/-- What is chosen has right parts. -/
theorem picked_parts {who : Int} {c : List Int} {N : Nat} (n : Int) (ms : List Int) (K : Int) (x : Int × Int) (hx : x ∈ pickB who (csplit c N) N) :
    partF (chalF K ms ((pickB who (csplit c N) N).map fun x => qcom x n ms)) (spubs (csplit c N)) ((pickB who (csplit c N) N).map fun x => qcom x n ms) (qpart K n ms ((pickB who (csplit c N) N).map fun x => qcom x n ms) x) = 0 :=
  partF_yes ⟨by rw [picked_ids]; exact List.mem_map.2 ⟨x, hx, rfl⟩, (qpart_rb _ _ _ _ _).2⟩ (picked_fits n ms K x hx)
/-- Another part of somebody is found out. -/
theorem other_part {e : Int} {ps cs : List (Int × Int)} {i a b : Int} (ha : Rb a) (hb : Rb b) (h : partF e ps cs (i, a) = 0) (hne : a ≠ b) : partF e ps cs (i, b) = 60 := by
  obtain ⟨h1, h2⟩ := partF_zero h
  refine partF_no ⟨h1.1, hb.2⟩ (fun g => hne ?_)
  unfold PartFits at h2 g
  exact (base_same ha.1 ha.2 hb.1 hb.2).1 (h2.trans g.symm)
theorem radd_ne {a b : Int} (ha : Rb a) (hb : b % 1152921504606845789 ≠ 0) : a ≠ radd a b := by
  unfold radd; unfold Rb at ha
  omega
end Go.Proofs.YtlannmedefjfhaaGreat

/- Plain: what is combined is a signature; the chapter's example. -/
import Derived.Test.YtlannmedefjfhaaGreatQuorumV
namespace Go.Proofs.YtlannmedefjfhaaGreat
open Go.ChangeShapes Go.WideShapes Go.ChangeAt Go.RowKit Gs
set_option linter.unusedVariables false

/-- WHAT IS COMBINED IS A SIGNATURE BY THE CREW'S KEY. -/
theorem comb_chk {T N K : Int} {ps cs l : List (Int × Int)} {ms : List Int} (hl : ∀ p ∈ l, 0 ≤ p.2) (h : combF T N K ps ms cs l = 0) : chk K ms (chalF K ms cs) (rsum (l.map Prod.snd)) = 0 := by
  have h1 : headF T N K ps cs = 0 := by
    by_cases g : headF T N K ps cs = 0
    · exact g
    · unfold combF at h; rw [if_neg g] at h; exact absurd h g
  unfold combF at h
  rw [if_pos h1] at h
  by_cases hi : l.map Prod.fst = cs.map Prod.fst
  · rw [if_pos hi] at h
    obtain ⟨⟨hok, hfit⟩, hco, hen⟩ := headF_zero h1
    have hw := firstE_zero (es := l.map (partF (chalF K ms cs) ps cs)) h
    obtain ⟨L, hL, hLb⟩ := logs ps (grp_mem (crew_grp hok))
    have hfst : L.map Prod.fst = ps.map Prod.fst := by rw [hL, spubs_fst]
    have hlen : L.length = ps.length := by rw [hL, spubs_length]
    obtain ⟨t1, tn, n7, _, hpl, hpo⟩ := hok
    have hok' : CrewOk T N K ps := ⟨t1, tn, n7, by assumption, hpl, hpo⟩
    have hlc : l.length = cs.length := by have := congrArg List.length hi; simpa using this
    have hget : ∀ i (h : i < l.length) (g : i < cs.length), l[i].1 = cs[i].1 := fun i h g => by
      have := List.getElem_of_eq hi (show i < (l.map Prod.fst).length by simpa using h)
      simpa using this
    have hJr := commits_right hco n7 (by omega)
    refine combined (T := T.toNat) (L := L) (ids := ps.map Prod.fst) hfst (crew_right hok') (by omega) hLb (by rw [← hL]; exact hfit.1) (fun i hi => ?_) (by rw [← hL]; exact hfit.2) (C := cs) (P := l) (J := cs.map Prod.fst) rfl hJr (by omega) (fun c hc => ?_) (fun c hc => ?_) hl (by omega) ms (fun i h g => ?_)
    · have := List.getElem_of_eq hfst (show i < (L.map Prod.fst).length by simpa using hi)
      simp only [List.getElem_map] at this
      rw [this]
      exact (hpo i (by omega)).1
    · obtain ⟨i, hi, rfl⟩ := List.getElem_of_mem hc
      have := (hco i hi).1
      omega
    · obtain ⟨i, hi, rfl⟩ := List.getElem_of_mem hc
      exact (hco i hi).1.2.2
    · have hz := hw (partF (chalF K ms cs) ps cs l[i]) (List.mem_map_of_mem (List.getElem_mem g))
      have hp := (partF_zero hz).2
      rw [hget i g h, cAt_eq hco i h] at hp
      rw [← hL]
      exact hp
  · rw [if_neg hi] at h; omega

theorem five_bits : bitAt 5 0 = 1 ∧ bitAt 5 1 = 0 ∧ bitAt 5 2 = 1 := by unfold bitAt; simp only [bit_and_one]; decide
theorem one_bits : bitAt 1 0 = 1 ∧ bitAt 1 1 = 0 ∧ bitAt 1 2 = 0 := by unfold bitAt; simp only [bit_and_one]; decide
theorem pick_five {l : List (Int × Int)} {a b c : Int × Int} (h : l = [a, b, c]) : pickB 5 l 3 = [a, c] := by
  subst h
  show (if bitAt 5 2 = 1 then (if bitAt 5 1 = 1 then (if bitAt 5 0 = 1 then ([] : List (Int × Int)) ++ [a] else []) ++ [b] else (if bitAt 5 0 = 1 then ([] : List (Int × Int)) ++ [a] else [])) ++ [c] else _) = _
  rw [if_pos five_bits.2.2, if_neg (by rw [five_bits.2.1]; omega), if_pos five_bits.1]
  rfl
theorem sum_one : sumB 1 3 = 1 := by
  show 0 + bitAt 1 0 + bitAt 1 1 + bitAt 1 2 = 1
  rw [one_bits.1, one_bits.2.1, one_bits.2.2]; omega
theorem sum_five : sumB 5 3 = 2 := by
  show 0 + bitAt 5 0 + bitAt 5 1 + bitAt 5 2 = 2
  rw [five_bits.1, five_bits.2.1, five_bits.2.2]; omega

/-- One more in a part is found out. -/
theorem wrong_comb {T : Int} {N : Nat} {K who n : Int} {pol ms : List Int} (hcr : crewF T (N : Int) K (spubs (csplit pol N)) = 0) (he : ¬ ((comsB who n ms (csplit pol N) N).length : Int) < T) (b : Int) (hb : b % 1152921504606845789 ≠ 0) (k : Nat) (hk : k < (partsB K who n ms (csplit pol N) (comsB who n ms (csplit pol N) N) N).length) :
    combF T (N : Int) K (spubs (csplit pol N)) ms (comsB who n ms (csplit pol N) N) ((partsB K who n ms (csplit pol N) (comsB who n ms (csplit pol N) N) N).set k ((partsB K who n ms (csplit pol N) (comsB who n ms (csplit pol N) N) N)[k].1, radd (partsB K who n ms (csplit pol N) (comsB who n ms (csplit pol N) N) N)[k].2 b)) = 60
    ∧ combS T (N : Int) K (spubs (csplit pol N)) ms (comsB who n ms (csplit pol N) N) ((partsB K who n ms (csplit pol N) (comsB who n ms (csplit pol N) N) N).set k ((partsB K who n ms (csplit pol N) (comsB who n ms (csplit pol N) N) N)[k].1, radd (partsB K who n ms (csplit pol N) (comsB who n ms (csplit pol N) N) N)[k].2 b)) = (0, 0) := by
  have h1 : headF T (N : Int) K (spubs (csplit pol N)) (comsB who n ms (csplit pol N) N) = 0 := by rw [picked_head hcr]; exact if_neg he
  have hw := picked_wrong (who := who) (K := K) (n := n) (N := N) (pol := pol) (ms := ms)
  have hf : (partsB K who n ms (csplit pol N) (comsB who n ms (csplit pol N) N) N).map Prod.fst = (comsB who n ms (csplit pol N) N).map Prod.fst := by
    unfold partsB
    rw [parts_fst]
    exact (picked_ids _ n ms).symm
  have hrb : ∀ p ∈ partsB K who n ms (csplit pol N) (comsB who n ms (csplit pol N) N) N, Rb p.2 := fun p hp => by
    obtain ⟨x, _, rfl⟩ := List.mem_map.1 hp
    exact qpart_rb _ _ _ _ _
  generalize partsB K who n ms (csplit pol N) (comsB who n ms (csplit pol N) N) N = PS at *
  generalize comsB who n ms (csplit pol N) N = CS at *
  generalize spubs (csplit pol N) = ps at *
  have hz := firstE_zero (es := PS.map (partF (chalF K ms CS) ps CS)) hw
  have hzi : ∀ i (h : i < PS.length), partF (chalF K ms CS) ps CS PS[i] = 0 := fun i h => hz _ (List.mem_map_of_mem (List.getElem_mem h))
  have e : combF T (N : Int) K ps ms CS (PS.set k (PS[k].1, radd PS[k].2 b)) = 60 := by
    unfold combF
    rw [if_pos h1, if_pos (by
      rw [List.map_set, ← hf]
      show (PS.map Prod.fst).set k PS[k].1 = PS.map Prod.fst
      apply List.ext_getElem
      · simp
      · intro i g1 g2
        rw [List.getElem_set]
        split
        · rename_i e; subst e; simp
        · rfl)]
    have hk' : k < (PS.set k (PS[k].1, radd PS[k].2 b)).length := by simpa using hk
    have h60 : partF (chalF K ms CS) ps CS (PS[k].1, radd PS[k].2 b) = 60 :=
      other_part (hrb _ (List.getElem_mem hk)) (radd_bound _ _) (hzi k hk) (radd_ne (hrb _ (List.getElem_mem hk)) hb)
    rw [wrong_stop k hk' (fun j g hj => by
      rw [List.getElem_set_ne (by omega)]
      exact hzi j (by simpa using g)) (by rw [List.getElem_set_self, h60]; omega), List.getElem_set_self, h60]
  exact ⟨e, if_neg (by rw [e]; omega)⟩
theorem wrong_comb2 {T : Int} {N : Nat} {K who n : Int} {pol ms : List Int} (hcr : crewF T (N : Int) K (spubs (csplit pol N)) = 0) (b : Int) (hb : b % 1152921504606845789 ≠ 0) (CS PS : List (Int × Int)) (hCS : comsB who n ms (csplit pol N) N = CS) (hPS : partsB K who n ms (csplit pol N) CS N = PS) (he : ¬ (CS.length : Int) < T) (k : Nat) (hk : k < PS.length) :
    combF T (N : Int) K (spubs (csplit pol N)) ms CS (PS.set k (PS[k].1, radd PS[k].2 b)) = 60 ∧ combS T (N : Int) K (spubs (csplit pol N)) ms CS (PS.set k (PS[k].1, radd PS[k].2 b)) = (0, 0) := by
  subst hCS
  subst hPS
  exact wrong_comb hcr he b hb k hk
end Go.Proofs.YtlannmedefjfhaaGreat

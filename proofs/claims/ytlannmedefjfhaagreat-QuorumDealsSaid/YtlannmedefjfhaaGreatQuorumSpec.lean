/- Plain: what is told of a crew and of commitments, of a part, of parts; what a signer tells. -/
import Derived.Test.YtlannmedefjfhaaGreatQuorumPlain
namespace Go.Proofs.YtlannmedefjfhaaGreat
open Go.ChangeShapes Go.WideShapes Go.ChangeAt Go.RowKit Gs
set_option linter.unusedVariables false

open Classical in
noncomputable def crewF (T N K : Int) (ps : List (Int × Int)) : Int := if CrewOk T N K ps then (if CrewFits T K ps then 0 else 60) else 1
theorem crewF_is (T N K : Int) (ps : List (Int × Int)) : CrewE T N K ps (crewF T N K ps) := by
  unfold crewF
  by_cases h : CrewOk T N K ps
  · by_cases g : CrewFits T K ps
    · rw [if_pos h, if_pos g]; exact ⟨fun h' => absurd h h', fun _ g' => absurd g g', fun _ _ => rfl⟩
    · rw [if_pos h, if_neg g]; exact ⟨fun h' => absurd h h', fun _ _ => rfl, fun _ g' => absurd g' g⟩
  · rw [if_neg h]; exact ⟨fun _ => rfl, fun h' => absurd h' h, fun h' => absurd h' h⟩
theorem crewF_zero {T N K : Int} {ps : List (Int × Int)} (h : crewF T N K ps = 0) : CrewOk T N K ps ∧ CrewFits T K ps := crewE_zero (h ▸ crewF_is T N K ps)
open Classical in
noncomputable def signerF (x : Int × Int) (n : Int) : Int := if SignerOk x n then 0 else 1
theorem signerF_zero {x : Int × Int} {n : Int} (h : signerF x n = 0) : SignerOk x n := by
  unfold signerF at h
  by_cases g : SignerOk x n
  · exact g
  · rw [if_neg g] at h; omega
open Classical in
noncomputable def commF (N : Int) (cs : List (Int × Int)) : Int := if CommitsOk N cs then 0 else 1
theorem commF_zero {N : Int} {cs : List (Int × Int)} (h : commF N cs = 0) : CommitsOk N cs := by
  unfold commF at h
  by_cases g : CommitsOk N cs
  · exact g
  · rw [if_neg g] at h; omega
def enoughF (T : Int) (cs : List (Int × Int)) : Int := if (cs.length : Int) < T then 50 else 0
noncomputable def mayF (T N : Int) (cs : List (Int × Int)) : Int := firstE [commF N cs, enoughF T cs]
theorem mayF_zero {T N : Int} {cs : List (Int × Int)} (h : mayF T N cs = 0) : CommitsOk N cs ∧ ¬ (cs.length : Int) < T := by
  unfold mayF firstE at h
  by_cases g : commF N cs = 0
  · refine ⟨commF_zero g, fun k => ?_⟩
    rw [if_pos g] at h
    unfold firstE enoughF at h
    rw [if_pos k] at h
    simp at h
  · rw [if_neg g] at h; exact absurd h g
theorem mayF_is (T N : Int) (cs : List (Int × Int)) : MayE T N cs (mayF T N cs) := by
  unfold mayF
  by_cases h : CommitsOk N cs
  · have h1 : commF N cs = 0 := if_pos h
    by_cases g : (cs.length : Int) < T
    · have h2 : enoughF T cs = 50 := if_pos g
      rw [h1, h2]; exact ⟨fun h' => absurd h h', fun _ _ => rfl, fun _ g' => absurd g g'⟩
    · have h2 : enoughF T cs = 0 := if_neg g
      rw [h1, h2]; exact ⟨fun h' => absurd h h', fun _ g' => absurd g' g, fun _ _ => rfl⟩
  · have h1 : commF N cs = 1 := if_neg h
    rw [h1]; exact ⟨fun _ => rfl, fun h' => absurd h' h, fun h' => absurd h' h⟩

/-- The commitment of an Id. -/
def cAt (cs : List (Int × Int)) (i : Int) : Int × Int := (cs.find? fun c => c.1 == i).getD (0, 0)
theorem cAt_eq {N : Int} {cs : List (Int × Int)} (h : CommitsOk N cs) (i : Nat) (hi : i < cs.length) : cAt cs cs[i].1 = cs[i] := by
  unfold cAt
  rw [List.find?_eq_some_iff_getElem.2 ⟨by simp, i, hi, rfl, fun j hj => by
    have h1 := (h i hi).2 j hj
    simp; omega⟩]
  rfl
theorem ids_at {cs : List (Int × Int)} {i : Int} (h : i ∈ cs.map Prod.fst) : ∃ (k : Nat) (hk : k < cs.length), cs[k].1 = i := by
  obtain ⟨c, hc, rfl⟩ := List.mem_map.1 h
  obtain ⟨k, hk, rfl⟩ := List.getElem_of_mem hc
  exact ⟨k, hk, rfl⟩

/-- What is challenged. -/
def chalF (K : Int) (ms : List Int) (cs : List (Int × Int)) : Int := schal (qprod (cs.map Prod.snd)) K ms
theorem chalF_bound (K : Int) (ms : List Int) (cs : List (Int × Int)) : 0 ≤ chalF K ms cs ∧ chalF K ms cs < 1152921504606845789 := schal_bound _ _ _
instance (K : Int) (ms : List Int) (cs : List (Int × Int)) : IsU (chalF K ms cs) := ⟨by have := chalF_bound K ms cs; omega, by have := chalF_bound K ms cs; omega⟩
open Classical in
/-- What is told of a part. -/
noncomputable def partF (e : Int) (ps cs : List (Int × Int)) (p : Int × Int) : Int :=
  if p.1 ∈ cs.map Prod.fst ∧ p.2 < 1152921504606845789 then (if PartFits e (cs.map Prod.fst) ps (cAt cs p.1) p then 0 else 60) else 1
theorem partF_out {e : Int} {ps cs : List (Int × Int)} {p : Int × Int} (h : ¬ (p.1 ∈ cs.map Prod.fst ∧ p.2 < 1152921504606845789)) : partF e ps cs p = 1 := if_neg h
theorem partF_yes {e : Int} {ps cs : List (Int × Int)} {p : Int × Int} (h : p.1 ∈ cs.map Prod.fst ∧ p.2 < 1152921504606845789) (g : PartFits e (cs.map Prod.fst) ps (cAt cs p.1) p) : partF e ps cs p = 0 := by unfold partF; rw [if_pos h, if_pos g]
theorem partF_no {e : Int} {ps cs : List (Int × Int)} {p : Int × Int} (h : p.1 ∈ cs.map Prod.fst ∧ p.2 < 1152921504606845789) (g : ¬ PartFits e (cs.map Prod.fst) ps (cAt cs p.1) p) : partF e ps cs p = 60 := by unfold partF; rw [if_pos h, if_neg g]
theorem partF_zero {e : Int} {ps cs : List (Int × Int)} {p : Int × Int} (h : partF e ps cs p = 0) : (p.1 ∈ cs.map Prod.fst ∧ p.2 < 1152921504606845789) ∧ PartFits e (cs.map Prod.fst) ps (cAt cs p.1) p := by
  by_cases h1 : p.1 ∈ cs.map Prod.fst ∧ p.2 < 1152921504606845789
  · by_cases g : PartFits e (cs.map Prod.fst) ps (cAt cs p.1) p
    · exact ⟨h1, g⟩
    · rw [partF_no h1 g] at h; omega
  · rw [partF_out h1] at h; omega
theorem partF_vals (e : Int) (ps cs : List (Int × Int)) (p : Int × Int) : partF e ps cs p = 0 ∨ partF e ps cs p = 1 ∨ partF e ps cs p = 60 := by
  by_cases h1 : p.1 ∈ cs.map Prod.fst ∧ p.2 < 1152921504606845789
  · by_cases g : PartFits e (cs.map Prod.fst) ps (cAt cs p.1) p
    · exact .inl (partF_yes h1 g)
    · exact .inr (.inr (partF_no h1 g))
  · exact .inr (.inl (partF_out h1))
noncomputable def wrongF (e : Int) (ps cs l : List (Int × Int)) : Int := firstE (l.map (partF e ps cs))
theorem firstE_zero : ∀ {es : List Int}, firstE es = 0 → ∀ e ∈ es, e = 0
  | [], _, e, h => by simp at h
  | a :: es, h, e, he => by
    by_cases ha : a = 0
    · rw [show firstE (a :: es) = firstE es from if_pos ha] at h
      rcases List.mem_cons.1 he with rfl | he
      · exact ha
      · exact firstE_zero h e he
    · rw [show firstE (a :: es) = a from if_neg ha] at h
      exact absurd h ha
/-- What stands ahead of parts. -/
noncomputable def headF (T N K : Int) (ps cs : List (Int × Int)) : Int := firstE [crewF T N K ps, commF N cs, enoughF T cs]
theorem headF_zero {T N K : Int} {ps cs : List (Int × Int)} (h : headF T N K ps cs = 0) : (CrewOk T N K ps ∧ CrewFits T K ps) ∧ CommitsOk N cs ∧ ¬ (cs.length : Int) < T := by
  have h0 := firstE_zero h
  have h1 := crewF_zero (h0 (crewF T N K ps) (by simp))
  have h2 := commF_zero (h0 (commF N cs) (by simp))
  have h3 : enoughF T cs = 0 := h0 _ (by simp)
  refine ⟨h1, h2, fun k => ?_⟩
  unfold enoughF at h3
  rw [if_pos k] at h3
  omega
noncomputable def cpartF (T N K : Int) (ps : List (Int × Int)) (ms : List Int) (cs : List (Int × Int)) (p : Int × Int) : Int :=
  if headF T N K ps cs = 0 then partF (chalF K ms cs) ps cs p else headF T N K ps cs
noncomputable def combF (T N K : Int) (ps : List (Int × Int)) (ms : List Int) (cs l : List (Int × Int)) : Int :=
  if headF T N K ps cs = 0 then (if l.map Prod.fst = cs.map Prod.fst then wrongF (chalF K ms cs) ps cs l else 1) else headF T N K ps cs
/-- What is told ahead of a signer's part. -/
noncomputable def aheadF (T N K : Int) (ps : List (Int × Int)) (x : Int × Int) (n : Int) (cs : List (Int × Int)) : Int := firstE [crewF T N K ps, signerF x n, commF N cs, enoughF T cs]
theorem aheadF_zero {T N K : Int} {ps cs : List (Int × Int)} {x : Int × Int} {n : Int} (h : aheadF T N K ps x n cs = 0) : (CrewOk T N K ps ∧ CrewFits T K ps) ∧ SignerOk x n ∧ CommitsOk N cs ∧ ¬ (cs.length : Int) < T := by
  have h0 := firstE_zero h
  have h1 := crewF_zero (h0 (crewF T N K ps) (by simp))
  have h2 := commF_zero (h0 (commF N cs) (by simp))
  have h4 := signerF_zero (h0 (signerF x n) (by simp))
  have h3 : enoughF T cs = 0 := h0 _ (by simp)
  refine ⟨h1, h4, h2, fun k => ?_⟩
  unfold enoughF at h3
  rw [if_pos k] at h3
  omega
/-- A signer's own commitment, its answer. -/
def qcom (x : Int × Int) (n : Int) (ms : List Int) : Int × Int := (x.1, qpow 4 (qnonce x n ms))
def qans (K : Int) (x : Int × Int) (n : Int) (ms : List Int) (cs : List (Int × Int)) : Int :=
  radd (qnonce x n ms) (rmul (rmul (chalF K ms cs) (wat (cs.map Prod.fst) x.1 0)) x.2)
noncomputable def spartF (T N K : Int) (ps : List (Int × Int)) (x : Int × Int) (n : Int) (ms : List Int) (cs : List (Int × Int)) : Int :=
  if aheadF T N K ps x n cs = 0 then (if qcom x n ms ∈ cs then 0 else 60) else aheadF T N K ps x n cs
end Go.Proofs.YtlannmedefjfhaaGreat

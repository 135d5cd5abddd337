/- Plain: what crews may be, what commitments may be, what a signer's nonce is; the first of some errors. -/
import Derived.Test.YtlannmedefjfhaaGreatQuorumMath
namespace Go.Proofs.YtlannmedefjfhaaGreat
open Go.ChangeShapes Go.WideShapes Go.ChangeAt Go.RowKit Gs
set_option linter.unusedVariables false

/-- The first error of some. -/
def firstE : List Int → Int
  | [] => 0
  | e :: es => if e = 0 then firstE es else e
theorem firstE_stop : ∀ (es : List Int) (k : Nat) (h : k < es.length), (∀ i (g : i < es.length), i < k → es[i] = 0) → es[k] ≠ 0 → firstE es = es[k]
  | e :: es, 0, _, _, hk => if_neg hk
  | e :: es, k + 1, h, h0, hk => by
    have e0 : e = 0 := h0 0 (by simp) (by omega)
    rw [show firstE (e :: es) = firstE es from if_pos e0]
    exact firstE_stop es k (by simpa using h) (fun i g gi => h0 (i + 1) (by simpa using g) (by omega)) hk
theorem firstE_none : ∀ (es : List Int), (∀ i (g : i < es.length), es[i] = 0) → firstE es = 0
  | [], _ => rfl
  | e :: es, h => by
    rw [show firstE (e :: es) = firstE es from if_pos (h 0 (by simp))]
    exact firstE_none es (fun i g => h (i + 1) (by simpa using g))

def PartsOk (ps : List (Int × Int)) : Prop := ∀ i (h : i < ps.length), ps[i].1 = (i : Int) + 1 ∧ qin ps[i].2 = true
def CrewOk (T N K : Int) (ps : List (Int × Int)) : Prop := 1 ≤ T ∧ T ≤ N ∧ N ≤ 7 ∧ qin K = true ∧ (ps.length : Int) = N ∧ PartsOk ps
/-- The parts of a crew fit together, and make its key. -/
def CrewFits (T K : Int) (ps : List (Int × Int)) : Prop := Fits T.toNat (ps.map Prod.fst) ps ∧ qat ((ps.map Prod.fst).take T.toNat) 0 (ps.take T.toNat) = K
/-- What is told of a crew. -/
def CrewE (T N K : Int) (ps : List (Int × Int)) (e : Int) : Prop := (¬ CrewOk T N K ps → e = 1) ∧ (CrewOk T N K ps → ¬ CrewFits T K ps → e = 60) ∧ (CrewOk T N K ps → CrewFits T K ps → e = 0)
theorem crewE_some (T N K : Int) (ps : List (Int × Int)) : ∃ e, CrewE T N K ps e := by
  by_cases h : CrewOk T N K ps
  · by_cases g : CrewFits T K ps
    · exact ⟨0, fun h' => absurd h h', fun _ g' => absurd g g', fun _ _ => rfl⟩
    · exact ⟨60, fun h' => absurd h h', fun _ _ => rfl, fun _ g' => absurd g' g⟩
  · exact ⟨1, fun _ => rfl, fun h' => absurd h' h, fun h' => absurd h' h⟩
theorem crewE_zero {T N K : Int} {ps : List (Int × Int)} (h : CrewE T N K ps 0) : CrewOk T N K ps ∧ CrewFits T K ps := by
  by_cases g : CrewOk T N K ps
  · by_cases f : CrewFits T K ps
    · exact ⟨g, f⟩
    · have := h.2.1 g f; omega
  · have := h.1 g; omega
theorem crewE_vals {T N K e : Int} {ps : List (Int × Int)} (h : CrewE T N K ps e) : e = 0 ∨ e = 1 ∨ e = 60 := by
  by_cases g : CrewOk T N K ps
  · by_cases f : CrewFits T K ps
    · exact .inl (h.2.2 g f)
    · exact .inr (.inr (h.2.1 g f))
  · exact .inr (.inl (h.1 g))
/-- The Ids of a crew's parts are right. -/
theorem crew_right {T N K : Int} {ps : List (Int × Int)} (h : CrewOk T N K ps) : RightI (ps.map Prod.fst) := by
  obtain ⟨h1, h2, h3, _, h5, h6⟩ := h
  refine ⟨by simp; omega, by simp; omega, fun i hi => ?_⟩
  have hi' : i < ps.length := by simpa using hi
  have hg : ∀ j (h : j < ps.length), (ps.map Prod.fst)[j]'(by simpa using h) = (j : Int) + 1 := fun j h => by rw [List.getElem_map]; exact (h6 j h).1
  rw [hg i hi']
  exact ⟨by omega, fun j g => by rw [hg j (by omega)]; omega⟩
theorem crew_grp {T N K : Int} {ps : List (Int × Int)} (h : CrewOk T N K ps) : Grp ps := fun i hi => (h.2.2.2.2.2 i hi).2

/-- A signer's share and session may be. -/
def SignerOk (x : Int × Int) (n : Int) : Prop := 1 ≤ x.1 ∧ x.1 ≤ 7 ∧ x.2 < 1152921504606845789 ∧ 0 ≤ n ∧ n ≤ 1099511627776
def qnonce (x : Int × Int) (n : Int) (ms : List Int) : Int := 1 + hof ⟨#[99, 111, 109, 109, 105, 116]⟩ [be x.2 8, be x.1 8, be n 8, ms] 1152921504606845788

/-- Commitments may be. -/
def CommitsOk (N : Int) (cs : List (Int × Int)) : Prop := ∀ i (h : i < cs.length), (1 ≤ cs[i].1 ∧ cs[i].1 ≤ N ∧ qin cs[i].2 = true) ∧ ∀ j (g : j < i), cs[j].1 < cs[i].1
/-- What is told of commitments. -/
def MayE (T N : Int) (cs : List (Int × Int)) (e : Int) : Prop := (¬ CommitsOk N cs → e = 1) ∧ (CommitsOk N cs → (cs.length : Int) < T → e = 50) ∧ (CommitsOk N cs → ¬ (cs.length : Int) < T → e = 0)
theorem mayE_some (T N : Int) (cs : List (Int × Int)) : ∃ e, MayE T N cs e := by
  by_cases h : CommitsOk N cs
  · by_cases g : (cs.length : Int) < T
    · exact ⟨50, fun h' => absurd h h', fun _ _ => rfl, fun _ g' => absurd g g'⟩
    · exact ⟨0, fun h' => absurd h h', fun _ g' => absurd g' g, fun _ _ => rfl⟩
  · exact ⟨1, fun _ => rfl, fun h' => absurd h' h, fun h' => absurd h' h⟩
theorem mayE_zero {T N : Int} {cs : List (Int × Int)} (h : MayE T N cs 0) : CommitsOk N cs ∧ ¬ (cs.length : Int) < T := by
  by_cases g : CommitsOk N cs
  · by_cases f : (cs.length : Int) < T
    · have := h.2.1 g f; omega
    · exact ⟨g, f⟩
  · have := h.1 g; omega
theorem commits_high {N : Int} {cs : List (Int × Int)} (h : CommitsOk N cs) : ∀ i (hi : i < cs.length), (i : Int) + 1 ≤ cs[i].1
  | 0, hi => by have := (h 0 hi).1.1; omega
  | i + 1, hi => by
    have h1 := commits_high h i (by omega)
    have h2 := (h (i + 1) hi).2 i (by omega)
    omega
theorem commits_few {N : Int} {cs : List (Int × Int)} (h : CommitsOk N cs) (h0 : 0 < cs.length) : (cs.length : Int) ≤ N := by
  have h1 := commits_high h (cs.length - 1) (by omega)
  have h2 := (h (cs.length - 1) (by omega)).1.2.1
  omega
theorem commits_right {N : Int} {cs : List (Int × Int)} (h : CommitsOk N cs) (hN : N ≤ 7) (h0 : 0 < cs.length) : RightI (cs.map Prod.fst) := by
  have h7 := commits_few h h0
  refine ⟨by simp; omega, by simp; omega, fun i hi => ?_⟩
  have hi' : i < cs.length := by simpa using hi
  have h1 := h i hi'
  simp only [List.getElem_map]
  exact ⟨by omega, fun j g => by have := h1.2 j g; omega⟩
end Go.Proofs.YtlannmedefjfhaaGreat

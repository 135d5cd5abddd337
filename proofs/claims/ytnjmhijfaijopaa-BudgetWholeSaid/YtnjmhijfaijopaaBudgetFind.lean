/- What was spent, in order: the first one of an owner; plain. -/
import Derived.Test.YtnjmhijfaijopaaBudgetMath
namespace Go.Proofs.Ytnjmhijfaijopaa
set_option linter.unusedVariables false
theorem okS_tail : ∀ {p : Option (Int × Int)} {s : Sp} {l : List Sp}, okS p (s :: l) = true → okS (some (s.1, s.2.1)) l = true
  | none, s, l, h => by simp only [okS, Bool.and_eq_true] at h; exact h.2
  | some o, s, l, h => by simp only [okS, Bool.and_eq_true] at h; exact h.2
theorem okS_after : ∀ {o : Int × Int} {l : List Sp}, okS (some o) l = true → ∀ s ∈ l, ltO o.1 o.2 s.1 s.2.1 = true
  | _, [], _, s, hs => by cases hs
  | o, q :: l, h, s, hs => by
    have h1 : ltO o.1 o.2 q.1 q.2.1 = true := by simp only [okS, Bool.and_eq_true] at h; exact h.1.2
    rcases List.mem_cons.1 hs with rfl | hs
    · exact h1
    · exact ltO_trans h1 (okS_after (o := (q.1, q.2.1)) (okS_tail h) s hs)
theorem okS_pair : ∀ {p : Option (Int × Int)} {l : List Sp}, okS p l = true → l.Pairwise (fun s q => ltO s.1 s.2.1 q.1 q.2.1 = true)
  | _, [], _ => .nil
  | p, s :: l, h => .cons (fun q hq => okS_after (o := (s.1, s.2.1)) (okS_tail h) q hq) (okS_pair (okS_tail h))
theorem okS_may : ∀ {p : Option (Int × Int)} {l : List Sp}, okS p l = true → ∀ s ∈ l, mayS s.1 s.2.1 s.2.2.1 s.2.2.2 = true
  | _, [], _, s, hs => by cases hs
  | none, q :: l, h, s, hs => by
    rcases List.mem_cons.1 hs with rfl | hs
    · simp only [okS, Bool.and_eq_true] at h; exact h.1
    · exact okS_may (okS_tail h) s hs
  | some o, q :: l, h, s, hs => by
    rcases List.mem_cons.1 hs with rfl | hs
    · simp only [okS, Bool.and_eq_true] at h; exact h.1.1
    · exact okS_may (okS_tail h) s hs
def isO (acc rule : Int) (s : Sp) : Bool := decide (s.1 = acc) && decide (s.2.1 = rule)
theorem isO_iff {acc rule : Int} {s : Sp} : isO acc rule s = true ↔ s.1 = acc ∧ s.2.1 = rule := by unfold isO; simp
/-- How many it had in a window that is on. -/
def hadS (acc rule wi now : Int) (L : List Sp) : Int := match L.find? (isO acc rule) with | none => 0 | some s => if now - s.2.2.1 < wi then s.2.2.2 else 0
/-- An owner's place, found by the order. -/
theorem found_at {acc rule : Int} {L : List Sp} (h : okS none L = true) (k : Nat) (hk : k < L.length) (hbef : ∀ j (g : j < L.length), j < k → ltO L[j].1 L[j].2.1 acc rule = true) (hge : ltO L[k].1 L[k].2.1 acc rule = false) :
    L.find? (isO acc rule) = if isO acc rule L[k] then some L[k] else none := by
  by_cases ho : isO acc rule L[k] = true
  · rw [if_pos ho]
    refine List.find?_eq_some_iff_getElem.2 ⟨ho, k, hk, rfl, fun j hj => ?_⟩
    have := hbef j (by omega) hj
    cases hi : isO acc rule L[j] with
    | false => rfl
    | true => have e := isO_iff.1 hi; rw [ltO_iff] at this; omega
  · rw [if_neg ho]
    refine List.find?_eq_none.2 fun s hs hi => ?_
    obtain ⟨j, hj, rfl⟩ := List.getElem_of_mem hs
    have e := isO_iff.1 hi
    rcases Nat.lt_trichotomy j k with g | g | g
    · have := hbef j hj g; rw [ltO_iff] at this; omega
    · subst g; exact ho hi
    · have := (List.pairwise_iff_getElem.1 (okS_pair h)) k j hk hj g
      have hn := hge
      rw [← Bool.not_eq_true, ltO_iff] at hn
      rw [ltO_iff] at this; omega
theorem found_none {acc rule : Int} {L : List Sp} (hbef : ∀ j (g : j < L.length), ltO L[j].1 L[j].2.1 acc rule = true) : L.find? (isO acc rule) = none := by
  refine List.find?_eq_none.2 fun s hs hi => ?_
  obtain ⟨j, hj, rfl⟩ := List.getElem_of_mem hs
  have e := isO_iff.1 hi
  have := hbef j hj
  rw [ltO_iff] at this; omega
end Go.Proofs.Ytnjmhijfaijopaa

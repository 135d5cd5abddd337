/- The document's way to put one in its place; plain. -/
import Derived.Test.YtnjmhijfaijopaaBudgetLaw
namespace Go.Proofs.Ytnjmhijfaijopaa
set_option linter.unusedVariables false
set_option linter.unusedSimpArgs false

/-- The document's way: one behind the other, the new one ahead of the first one that does not stand ahead of it. -/
def anyB (acc rule : Int) (l : List Sp) : Bool := l.any fun s => !aheadS acc rule s
def outR (acc rule : Int) (x : Sp) (l : List Sp) : List Sp := l.filter (aheadS acc rule) ++ (if anyB acc rule l then x :: l.filter (behindS acc rule) else [])
theorem anyB_no {acc rule : Int} {l : List Sp} (h : anyB acc rule l = false) : ∀ s ∈ l, aheadS acc rule s = true := by
  intro s hs
  unfold anyB at h
  rw [List.any_eq_false] at h
  simpa using h s hs
theorem anyB_nil {acc rule : Int} {l : List Sp} (h : anyB acc rule l = false) : l.filter (behindS acc rule) = [] := List.filter_eq_nil_iff.2 fun s hs hb => by
  have h1 := ahead_iff.1 (anyB_no h s hs)
  have h2 := behind_iff.1 hb
  omega
theorem anyB_snoc {acc rule : Int} {l : List Sp} {s : Sp} : anyB acc rule (l ++ [s]) = (anyB acc rule l || !aheadS acc rule s) := by unfold anyB; simp
theorem outR_ahead {acc rule : Int} {x s : Sp} {l : List Sp} (hl : anyB acc rule l = false) (h : aheadS acc rule s = true) : anyB acc rule (l ++ [s]) = false ∧ outR acc rule x (l ++ [s]) = outR acc rule x l ++ [s] := by
  have h1 : anyB acc rule (l ++ [s]) = false := by rw [anyB_snoc, hl, h]; rfl
  refine ⟨h1, ?_⟩
  unfold outR
  rw [h1, hl, List.filter_append, List.filter_cons, if_pos h]
  simp
theorem outR_own {acc rule : Int} {x s : Sp} {l : List Sp} (hl : anyB acc rule l = false) (h : isO acc rule s = true) : anyB acc rule (l ++ [s]) = true ∧ outR acc rule x (l ++ [s]) = outR acc rule x l ++ [x] := by
  have ha : aheadS acc rule s = false := by rw [ahead_no]; rw [isO_iff] at h; omega
  have hb : behindS acc rule s = false := by rw [behind_no]; rw [isO_iff] at h; omega
  have h1 : anyB acc rule (l ++ [s]) = true := by rw [anyB_snoc, ha]; simp
  refine ⟨h1, ?_⟩
  unfold outR
  rw [h1, hl, List.filter_append, List.filter_append, anyB_nil hl]
  simp [List.filter_cons, ha, hb]
theorem outR_behind {acc rule : Int} {x s : Sp} {l : List Sp} (h : behindS acc rule s = true) : anyB acc rule (l ++ [s]) = true ∧ outR acc rule x (l ++ [s]) = (if anyB acc rule l then outR acc rule x l else outR acc rule x l ++ [x]) ++ [s] := by
  have ha : aheadS acc rule s = false := by rw [ahead_no]; rw [behind_iff] at h; omega
  have h1 : anyB acc rule (l ++ [s]) = true := by rw [anyB_snoc, ha]; simp
  refine ⟨h1, ?_⟩
  unfold outR
  rw [h1, List.filter_append, List.filter_append, List.filter_cons, if_neg (by rw [ha]; decide), List.filter_cons, if_pos h]
  cases hl : anyB acc rule l with
  | true => simp
  | false => rw [anyB_nil hl]; simp
theorem outR_all {acc rule : Int} {x : Sp} {l : List Sp} : putS acc rule x l = if anyB acc rule l then outR acc rule x l else outR acc rule x l ++ [x] := by
  unfold outR putS
  cases hl : anyB acc rule l with
  | true => simp
  | false => rw [anyB_nil hl]; simp
theorem outR_len {acc rule : Int} {x : Sp} {l : List Sp} : (outR acc rule x l).length ≤ l.length + 1 := by
  have hsum : ∀ l : List Sp, (l.filter (aheadS acc rule)).length + (l.filter (behindS acc rule)).length ≤ l.length := by
    intro l
    induction l with
    | nil => simp
    | cons s l ih =>
      rw [List.filter_cons, List.filter_cons]
      by_cases h : aheadS acc rule s = true
      · rw [if_pos h, if_neg (by rw [behind_iff]; rw [ahead_iff] at h; omega)]; simp; omega
      · rw [if_neg h]; split <;> simp <;> omega
  have := hsum l
  unfold outR
  split <;> simp <;> omega
theorem had_le {acc rule wi now : Int} {L : List Sp} (h : okS none L = true) : hadS acc rule wi now L ≤ 1099511627776 := by
  unfold hadS; split
  · omega
  · rename_i s hf; have := find_may h hf; split <;> omega
/-- Who stands at a place is told by those ahead of it. -/
theorem any_take {acc rule : Int} {L : List Sp} (h : okS none L = true) (k : Nat) (hk : k < L.length) (hb : behindS acc rule L[k] = false) : anyB acc rule (L.take k) = false := by
  unfold anyB
  rw [List.any_eq_false]
  intro s hs
  obtain ⟨j, hj, rfl⟩ := List.getElem_of_mem hs
  simp only [List.length_take] at hj
  rw [List.getElem_take]
  have := okS_lt h j k hk (by omega)
  rw [behind_no] at hb
  have ha : aheadS acc rule L[j] = true := by rw [ahead_iff]; omega
  rw [ha]; decide
theorem take_snocS {L : List Sp} (k : Nat) (hk : k < L.length) : L.take (k + 1) = L.take k ++ [L[k]] := List.take_succ_eq_append_getElem hk
theorem had_zero {acc rule wi now : Int} {L : List Sp} (h : okS none L = true) (h0 : hadS acc rule wi now L = 0) : newS acc rule wi now L = (acc, rule, now, 1) := by
  unfold hadS at h0
  unfold newS
  cases hf : L.find? (isO acc rule) with
  | none => rfl
  | some s =>
    rw [hf] at h0
    have := find_may h hf
    by_cases hlt : now - s.2.2.1 < wi
    · simp only [hlt, if_true] at h0; omega
    · simp only [hlt, if_false]
theorem had_some {acc rule wi now : Int} {L : List Sp} (h0 : 0 < hadS acc rule wi now L) : ∃ s, L.find? (isO acc rule) = some s ∧ newS acc rule wi now L = (acc, rule, s.2.2.1, hadS acc rule wi now L + 1) := by
  unfold newS
  unfold hadS at h0 ⊢
  cases hf : L.find? (isO acc rule) with
  | none => rw [hf] at h0; exact absurd h0 (by simp)
  | some s =>
    rw [hf] at h0
    by_cases hlt : now - s.2.2.1 < wi
    · exact ⟨s, rfl, by simp only [hlt, if_true]⟩
    · simp only [hlt, if_false] at h0; exact absurd h0 (by simp)
end Go.Proofs.Ytnjmhijfaijopaa

/- The law of several rules, plainly. -/
import Derived.Test.YtnjmhijfaijopaaBudgetAllWalk
namespace Go.Proofs.Ytnjmhijfaijopaa
set_option linter.unusedVariables false
set_option linter.unusedSimpArgs false
/-- A number that stands among the rules, of which there is none left. -/
def hitB (L : List Sp) (rs : List (Int × Int)) (acc now x : Int) : Bool := match rs[x.toNat]? with | some r => decide (0 ≤ x) && (leftS L r.1 r.2 x acc now == 0) | none => false
theorem hitB_low {L : List Sp} {rs : List (Int × Int)} {acc now x : Int} (h : x < 0) : hitB L rs acc now x = false := by
  unfold hitB
  split
  · rw [decide_eq_false (by omega)]; rfl
  · rfl
theorem hitB_high {L : List Sp} {rs : List (Int × Int)} {acc now x : Int} (h : (rs.length : Int) ≤ x) : hitB L rs acc now x = false := by
  unfold hitB
  rw [List.getElem?_eq_none (by omega)]
theorem hitB_in {L : List Sp} {rs : List (Int × Int)} {acc now : Int} (k : Nat) (h : k < rs.length) : hitB L rs acc now (k : Int) = (leftS L rs[k].1 rs[k].2 k acc now == 0) := by
  unfold hitB
  rw [Int.toNat_natCast, List.getElem?_eq_getElem h, decide_eq_true (by omega)]; rfl
theorem allS_go {L X : List Sp} {rs : List (Int × Int)} {BY : List Int} {acc now er : Int} (h : allS L rs BY acc now = (X, er)) (he : er = 0 ∨ er = 170) : chkS L = 0 ∧ allGo BY acc now 0 rs L = (X, er) := by
  unfold allS at h
  by_cases hc : chkS L = 0
  · rw [if_pos hc] at h
    split at h
    · injection h with h1 h2; omega
    · exact ⟨hc, h⟩
  · rw [if_neg hc] at h
    injection h with h1 h2
    have : chkS L = 1 ∨ chkS L = 2 ∨ chkS L = 0 := by
      cases ho : okS none L with
      | true => rw [chkS_good ho]; split <;> simp
      | false => rw [chkS_bad ho]; simp
    omega
theorem whole_none {L X : List Sp} {rs : List (Int × Int)} {BY : List Int} {acc now : Int} (h : allS L rs BY acc now = (X, 170)) : X = [] ∧ BY.any (hitB L rs acc now) = true := by
  obtain ⟨hc, hg⟩ := allS_go h (.inr rfl)
  obtain ⟨h1, h2⟩ := allGo_no BY acc now rs 0 L hc (by rw [hg]; show ¬ (170 : Int) = 0; decide)
  rw [hg] at h1 h2
  obtain ⟨k, hk, c1, c2⟩ := h2 rfl
  refine ⟨h1, List.any_eq_true.2 ⟨((0 : Nat) : Int) + k, List.contains_iff_mem.1 c1, ?_⟩⟩
  rw [show ((0 : Nat) : Int) + (k : Int) = (k : Int) by omega] at c2 ⊢
  rw [hitB_in k hk, c2]; rfl
theorem whole_err {L X : List Sp} {rs : List (Int × Int)} {BY : List Int} {acc now er : Int} (h : allS L rs BY acc now = (X, er)) (he : ¬ er = 0) : X = [] := by
  unfold allS at h
  by_cases hc : chkS L = 0
  · rw [if_pos hc] at h
    split at h
    · injection h with h1 h2; exact h1.symm
    · have := (allGo_no BY acc now rs 0 L hc (by rw [h]; exact he)).1
      rw [h] at this; exact this
  · rw [if_neg hc] at h
    injection h with h1 h2; exact h1.symm
theorem whole_ok {L X : List Sp} {rs : List (Int × Int)} {BY : List Int} {acc now : Int} (h : allS L rs BY acc now = (X, 0)) : chkS X = 0 ∧ ∀ k (h : k < rs.length), leftS X rs[k].1 rs[k].2 k acc now + (if BY.contains (k : Int) = true ∧ 0 < rs[k].1 then 1 else 0) = leftS L rs[k].1 rs[k].2 k acc now := by
  obtain ⟨hc, hg⟩ := allS_go h (.inl rfl)
  obtain ⟨h1, _, h3⟩ := allGo_ok BY acc now rs 0 L hc (by rw [hg])
  rw [hg] at h1 h3
  refine ⟨h1, fun k hk => ?_⟩
  have := h3 k hk
  rw [show ((0 : Nat) : Int) + (k : Int) = (k : Int) by omega] at this
  exact this
theorem any_snocI {q : Int → Bool} {l : List Int} (k : Nat) (h : k < l.length) : (l.take (k + 1)).any q = ((l.take k).any q || q l[k]) := by
  rw [List.take_succ_eq_append_getElem h, List.any_append, List.any_cons, List.any_nil, Bool.or_false]
theorem contains_any (l : List Int) (i : Int) : l.contains i = l.any (fun x => x == i) := by
  rw [Bool.eq_iff_iff, List.contains_iff_mem, List.any_eq_true]
  constructor
  · intro h; exact ⟨i, h, by simp⟩
  · rintro ⟨x, hx, e⟩
    have : x = i := by simpa using e
    exact this ▸ hx
theorem contains_snocI {l : List Int} {i : Int} (k : Nat) (h : k < l.length) : (l.take (k + 1)).contains i = ((l.take k).contains i || (l[k] == i)) := by
  rw [contains_any, contains_any, any_snocI k h]
end Go.Proofs.Ytnjmhijfaijopaa

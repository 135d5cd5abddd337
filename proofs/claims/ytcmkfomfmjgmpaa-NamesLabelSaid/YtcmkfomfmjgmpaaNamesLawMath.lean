/- What the laws of names say, plainly. -/
import Derived.Test.YtcmkfomfmjgmpaaNamesL
namespace Go.Proofs.Ytcmkfomfmjgmpaa
open Go.ChangeShapes Go.WideShapes Go.ChangeAt Go.RowKit Go.Shelf Gs
set_option linter.unusedVariables false

theorem below_iff {s t : List UInt8} : belowB s t = true ↔ t ∈ sufs s := by unfold belowB; exact decide_eq_true_iff
theorem star_cases (p : List UInt8) (h : patB p = true) : (starO p = none ∧ nameB p = true) ∨ ∃ o, starO p = some o ∧ nameB p = false ∧ p = 42 :: 46 :: o ∧ nameN 7 62 o = true := by
  cases hs : starO p with
  | none => left; exact ⟨rfl, by rwa [patB_no_star hs] at h⟩
  | some o => right; exact ⟨o, rfl, star_noname hs, stB_some (starO_some hs).1, (starO_some hs).2⟩
theorem within_pats {p q : List UInt8} (h : withinB p q = true) : patB p = true ∧ patB q = true := by
  constructor
  · cases hp : patB p
    · rw [within_nop hp] at h; cases h
    · rfl
  · cases hp : patB q
    · rw [within_noq hp] at h; cases h
    · rfl
theorem within_match {p q s : List UInt8} (h : withinB p q = true) (hm : matchB p s = true) : matchB q s = true := by
  obtain ⟨hp, hq⟩ := within_pats h
  have hn : nameB s = true := by
    cases hn : nameB s
    · rw [match_noname hn] at hm; cases hm
    · rfl
  rcases star_cases p hp with ⟨h1, h2⟩ | ⟨o, h1, h2, h3, h4⟩
  · rw [within_plain h1] at h
    rw [match_plain h1 hn, decide_eq_true_eq] at hm
    rw [← hm]; exact h
  · cases hs : starO q with
    | none => rw [within_star_no h1 hs] at h; cases h
    | some i =>
      rw [within_stars h1 hs, Bool.or_eq_true, decide_eq_true_eq, below_iff] at h
      rw [match_star h1 hn, below_iff] at hm
      rw [match_star hs hn, below_iff]
      rcases h with h | h
      · rw [← h]; exact hm
      · exact sufs_trans hm h
theorem match_self {p : List UInt8} (h : nameB p = true) : matchB p p = true := by
  rw [match_plain (by unfold starO; rw [name_nostar h]) h]; simp
theorem name_one {c : UInt8} (hc : wordB c.toNat = true) (h46 : c ≠ 46) {o : List UInt8} (h : nameN 7 62 o = true) : nameB (c :: 46 :: o) = true := by
  have h1 : cuts (c :: 46 :: o) = [c] :: cuts o := cuts_app (c := [c]) (by simp; exact fun e => h46 e.symm) o
  unfold nameN at h
  rw [Bool.and_eq_true, Bool.and_eq_true, decide_eq_true_eq, decide_eq_true_eq] at h
  unfold nameB nameN
  rw [h1, Bool.and_eq_true, Bool.and_eq_true, decide_eq_true_eq, decide_eq_true_eq]
  refine ⟨by simp; omega, by simp; omega, ?_⟩
  rw [List.all_cons, h.2.2, Bool.and_true]
  unfold labB okTo okAt
  simp [List.range_succ, hc]
theorem below_one (c : UInt8) (h46 : c ≠ 46) (o i : List UInt8) : belowB (c :: 46 :: o) i = (decide (o = i) || belowB o i) := by
  have h : sufs (c :: 46 :: o) = o :: sufs o := sufs_app (c := [c]) (by simp; exact fun e => h46 e.symm) o
  rw [Bool.eq_iff_iff, Bool.or_eq_true, below_iff, below_iff, h, List.mem_cons, decide_eq_true_eq]
  exact ⟨fun h => h.imp_left Eq.symm, fun h => h.imp_left Eq.symm⟩
theorem wit_self {c : UInt8} (hc : wordB c.toNat = true) (h46 : c ≠ 46) {p o : List UInt8} (h : starO p = some o) : matchB p (c :: 46 :: o) = true := by
  rw [match_star h (name_one hc h46 (starO_some h).2), below_one c h46]; simp
/-- Not within: one of two names shows it. -/
theorem wit_two {p q o : List UInt8} (h : starO p = some o) (hw : withinB p q = false) (hq : patB q = true) : (matchB q (120 :: 46 :: o) && matchB q (121 :: 46 :: o)) = false := by
  have n1 : nameB (120 :: 46 :: o) = true := name_one (by decide) (by decide) (starO_some h).2
  have n2 : nameB (121 :: 46 :: o) = true := name_one (by decide) (by decide) (starO_some h).2
  cases hs : starO q with
  | none =>
    rw [match_plain hs n1, match_plain hs n2]
    by_cases e : q = 120 :: 46 :: o
    · subst e; simp
    · simp [e]
  | some i =>
    rw [match_star hs n1, below_one 120 (by decide), ← within_stars h hs, hw]; rfl
theorem within_name {p q : List UInt8} (h : nameB p = true) : withinB p q = matchB q p := within_plain (by unfold starO; rw [name_nostar h])

theorem sufs_two {s a b : List UInt8} (ha : a ∈ sufs s) (hb : b ∈ sufs s) : a = b ∨ a ∈ sufs b ∨ b ∈ sufs a := by
  induction s with
  | nil => cases ha
  | cons x l ih =>
    unfold sufs at ha hb
    split at ha
    · rename_i hx
      rw [if_pos hx] at hb
      rcases List.mem_cons.1 ha with rfl | ha <;> rcases List.mem_cons.1 hb with rfl | hb
      · exact .inl rfl
      · exact .inr (.inr hb)
      · exact .inr (.inl ha)
      · exact ih ha hb
    · rename_i hx
      rw [if_neg hx] at hb
      exact ih ha hb
theorem meets_comm (p q : List UInt8) : meetsB p q = meetsB q p := by unfold meetsB; exact Bool.or_comm _ _
theorem within_meets {p q : List UInt8} (h : withinB p q = true) : meetsB p q = true := by unfold meetsB; rw [h]; rfl
theorem match_pat {p s : List UInt8} (h : matchB p s = true) : patB p = true ∧ nameB s = true := by
  unfold matchB at h
  rw [Bool.and_eq_true, Bool.and_eq_true] at h
  exact h.1
theorem both_meet {p q s : List UInt8} (h : matchB p s = true) (h' : matchB q s = true) : meetsB p q = true := by
  obtain ⟨hp, hn⟩ := match_pat h
  obtain ⟨hq, _⟩ := match_pat h'
  rcases star_cases p hp with ⟨h1, h2⟩ | ⟨o, h1, h2, h3, h4⟩
  · rw [match_plain h1 hn, decide_eq_true_eq] at h
    subst h
    unfold meetsB; rw [within_plain h1, h']; rfl
  · rcases star_cases q hq with ⟨g1, g2⟩ | ⟨i, g1, g2, g3, g4⟩
    · rw [match_plain g1 hn, decide_eq_true_eq] at h'
      subst h'
      unfold meetsB; rw [within_plain g1, h]; simp
    · rw [match_star h1 hn, below_iff] at h
      rw [match_star g1 hn, below_iff] at h'
      unfold meetsB
      rw [within_stars h1 g1, within_stars g1 h1]
      rcases sufs_two h h' with e | e | e
      · simp [e]
      · simp [below_iff.2 e]
      · simp [below_iff.2 e]
/-- If two meet there is a name that both match: one of them, or one letter more ahead of what one is a star of. -/
theorem within_wit {p q : List UInt8} (h : withinB p q = true) : (nameB p = true ∧ matchB p p = true ∧ matchB q p = true) ∨ ∃ o, p = 42 :: 46 :: o ∧ nameB p = false ∧ matchB p (120 :: 46 :: o) = true ∧ matchB q (120 :: 46 :: o) = true := by
  obtain ⟨hp, hq⟩ := within_pats h
  rcases star_cases p hp with ⟨h1, h2⟩ | ⟨o, h1, h2, h3, h4⟩
  · left
    exact ⟨h2, match_self h2, by rw [within_plain h1] at h; exact h⟩
  · right
    have hm := wit_self (c := 120) (by decide) (by decide) h1
    exact ⟨o, h3, h2, hm, within_match h hm⟩
theorem within_refl (p : List UInt8) : withinB p p = patB p := by
  cases hp : patB p
  · exact within_nop hp
  · rcases star_cases p hp with ⟨h1, h2⟩ | ⟨o, h1, h2, h3, h4⟩
    · rw [within_plain h1]; exact match_self h2
    · rw [within_stars h1 h1]; simp
theorem within_trans {p q o : List UInt8} (h : withinB p q = true) (h' : withinB q o = true) : withinB p o = true := by
  obtain ⟨hp, hq⟩ := within_pats h
  obtain ⟨_, ho⟩ := within_pats h'
  rcases star_cases p hp with ⟨h1, h2⟩ | ⟨a, h1, h2, h3, h4⟩
  · rw [within_plain h1] at h ⊢
    exact within_match h' h
  · cases g1 : starO q with
    | none => rw [within_star_no h1 g1] at h; cases h
    | some b =>
      cases k1 : starO o with
      | none => rw [within_star_no g1 k1] at h'; cases h'
      | some c =>
        rw [within_stars h1 g1, Bool.or_eq_true, decide_eq_true_eq, below_iff] at h
        rw [within_stars g1 k1, Bool.or_eq_true, decide_eq_true_eq, below_iff] at h'
        rw [within_stars h1 k1, Bool.or_eq_true, decide_eq_true_eq, below_iff]
        rcases h with rfl | h <;> rcases h' with rfl | h'
        · exact .inl rfl
        · exact .inr h'
        · exact .inr h
        · exact .inr (sufs_trans h h')
theorem within_anti {p q : List UInt8} (h : withinB p q = true) (h' : withinB q p = true) : p = q := by
  obtain ⟨hp, hq⟩ := within_pats h
  rcases star_cases p hp with ⟨h1, h2⟩ | ⟨a, h1, h2, h3, h4⟩
  · rcases star_cases q hq with ⟨g1, g2⟩ | ⟨i, g1, g2, g3, g4⟩
    · rw [within_plain h1, match_plain g1 h2, decide_eq_true_eq] at h
      exact h.symm
    · rw [within_star_no g1 h1] at h'; cases h'
  · cases g1 : starO q with
    | none => rw [within_star_no h1 g1] at h; cases h
    | some b =>
      rw [within_stars h1 g1, Bool.or_eq_true, decide_eq_true_eq, below_iff] at h
      rw [within_stars g1 h1, Bool.or_eq_true, decide_eq_true_eq, below_iff] at h'
      have hb := stB_some (starO_some g1).1
      rcases h with rfl | h
      · rw [h3, hb]
      · rcases h' with rfl | h'
        · rw [h3, hb]
        · have l1 := sufs_len h; have l2 := sufs_len h'; omega
end Go.Proofs.Ytcmkfomfmjgmpaa

/- What was spent, plainly: the owner's put in its place. -/
import Derived.Test.YtnjmhijfaijopaaBudgetFind
namespace Go.Proofs.Ytnjmhijfaijopaa
set_option linter.unusedVariables false
set_option linter.unusedSimpArgs false

/-- The owner's is put in its place. -/
def aheadS (acc rule : Int) (s : Sp) : Bool := ltO s.1 s.2.1 acc rule
def behindS (acc rule : Int) (s : Sp) : Bool := ltO acc rule s.1 s.2.1
def putS (acc rule : Int) (x : Sp) (L : List Sp) : List Sp := L.filter (aheadS acc rule) ++ x :: L.filter (behindS acc rule)
theorem ahead_iff {acc rule : Int} {s : Sp} : aheadS acc rule s = true ↔ s.1 < acc ∨ s.1 = acc ∧ s.2.1 < rule := by unfold aheadS; exact ltO_iff
theorem behind_iff {acc rule : Int} {s : Sp} : behindS acc rule s = true ↔ acc < s.1 ∨ acc = s.1 ∧ rule < s.2.1 := by unfold behindS; exact ltO_iff
theorem ahead_no {acc rule : Int} {s : Sp} : aheadS acc rule s = false ↔ ¬ (s.1 < acc ∨ s.1 = acc ∧ s.2.1 < rule) := by rw [← ahead_iff]; simp
theorem behind_no {acc rule : Int} {s : Sp} : behindS acc rule s = false ↔ ¬ (acc < s.1 ∨ acc = s.1 ∧ rule < s.2.1) := by rw [← behind_iff]; simp
theorem okS_lt {L : List Sp} (h : okS none L = true) (i j : Nat) (hj : j < L.length) (hij : i < j) : L[i].1 < L[j].1 ∨ L[i].1 = L[j].1 ∧ L[i].2.1 < L[j].2.1 := by
  have := (List.pairwise_iff_getElem.1 (okS_pair h)) i j (by omega) hj hij
  rwa [ltO_iff] at this
theorem ge_of {acc rule : Int} {L : List Sp} (h : okS none L = true) (k : Nat) (hge : ∀ g : k < L.length, ltO L[k].1 L[k].2.1 acc rule = false) (j : Nat) (hj : j < L.length) (hkj : k ≤ j) : aheadS acc rule L[j] = false := by
  rw [ahead_no]
  have hk : k < L.length := by omega
  have h1 := hge hk
  rw [← Bool.not_eq_true, ltO_iff] at h1
  rcases Nat.lt_or_eq_of_le hkj with g | g
  · have := okS_lt h k j hj g; omega
  · subst g; exact h1
theorem take_ahead {acc rule : Int} {L : List Sp} (h : okS none L = true) (k : Nat) (hk : k ≤ L.length) (hbef : ∀ j (g : j < L.length), j < k → ltO L[j].1 L[j].2.1 acc rule = true) (hge : ∀ g : k < L.length, ltO L[k].1 L[k].2.1 acc rule = false) :
    L.filter (aheadS acc rule) = L.take k := by
  conv => lhs; rw [← List.take_append_drop k L]
  rw [List.filter_append, List.filter_eq_self.2, List.filter_eq_nil_iff.2, List.append_nil]
  · intro s hs
    obtain ⟨j, hj, rfl⟩ := List.getElem_of_mem hs
    simp only [List.length_drop] at hj
    rw [List.getElem_drop, ge_of h k hge (k + j) (by omega) (by omega)]; decide
  · intro s hs
    obtain ⟨j, hj, rfl⟩ := List.getElem_of_mem hs
    simp only [List.length_take] at hj
    rw [List.getElem_take]
    exact hbef j (by omega) (by omega)
theorem drop_behind {acc rule : Int} {L : List Sp} (h : okS none L = true) (k : Nat) (hk : k ≤ L.length) (hbef : ∀ j (g : j < L.length), j < k → ltO L[j].1 L[j].2.1 acc rule = true) (hge : ∀ g : k < L.length, ltO L[k].1 L[k].2.1 acc rule = false)
    (m : Nat) (hm : (m = k ∧ ∀ g : k < L.length, isO acc rule L[k] = false) ∨ (m = k + 1 ∧ ∃ g : k < L.length, isO acc rule L[k] = true)) :
    L.filter (behindS acc rule) = L.drop m := by
  have hmk : k ≤ m ∧ m ≤ L.length := by rcases hm with ⟨rfl, _⟩ | ⟨rfl, g, _⟩ <;> omega
  conv => lhs; rw [← List.take_append_drop m L]
  rw [List.filter_append, List.filter_eq_nil_iff.2, List.nil_append, List.filter_eq_self.2]
  · intro s hs
    obtain ⟨j, hj, rfl⟩ := List.getElem_of_mem hs
    simp only [List.length_drop] at hj
    rw [List.getElem_drop, behind_iff]
    have h1 := ge_of h k hge (m + j) (by omega) (by omega)
    rw [ahead_no] at h1
    rcases hm with ⟨rfl, h2⟩ | ⟨rfl, g, h2⟩
    · rcases Nat.eq_zero_or_pos j with rfl | hj0
      · have := h2 (by omega)
        rw [← Bool.not_eq_true, isO_iff] at this
        simp only [Nat.add_zero] at h1 ⊢
        omega
      · have h3 := hge (by omega)
        rw [← Bool.not_eq_true, ltO_iff] at h3
        have := okS_lt h m (m + j) (by omega) (by omega)
        have h4 := h2 (by omega)
        rw [← Bool.not_eq_true, isO_iff] at h4
        omega
    · have := okS_lt h k (k + 1 + j) (by omega) (by omega)
      rw [isO_iff] at h2
      omega
  · intro s hs
    obtain ⟨j, hj, rfl⟩ := List.getElem_of_mem hs
    simp only [List.length_take] at hj
    rw [List.getElem_take, Bool.not_eq_true, behind_no]
    rcases hm with ⟨rfl, h2⟩ | ⟨rfl, g, h2⟩
    · have := hbef j (by omega) (by omega); rw [ltO_iff] at this; omega
    · rcases Nat.lt_or_eq_of_le (show j ≤ k by omega) with h5 | h5
      · have := hbef j (by omega) h5; rw [ltO_iff] at this; omega
      · subst h5; rw [isO_iff] at h2; omega
theorem okS_of : ∀ {p : Option (Int × Int)} {l : List Sp}, l.Pairwise (fun s q => ltO s.1 s.2.1 q.1 q.2.1 = true) → (∀ s ∈ l, mayS s.1 s.2.1 s.2.2.1 s.2.2.2 = true) → (∀ o, p = some o → ∀ s ∈ l, ltO o.1 o.2 s.1 s.2.1 = true) → okS p l = true
  | _, [], _, _, _ => by unfold okS; rfl
  | none, s :: l, hp, hm, ho => by
    rw [List.pairwise_cons] at hp
    unfold okS
    rw [hm s (List.mem_cons_self ..), okS_of hp.2 (fun q hq => hm q (List.mem_cons_of_mem _ hq)) (fun o e q hq => by cases e; exact hp.1 q hq)]; rfl
  | some o, s :: l, hp, hm, ho => by
    rw [List.pairwise_cons] at hp
    unfold okS
    rw [hm s (List.mem_cons_self ..), ho o rfl s (List.mem_cons_self ..), okS_of hp.2 (fun q hq => hm q (List.mem_cons_of_mem _ hq)) (fun o e q hq => by cases e; exact hp.1 q hq)]; rfl
theorem put_ok {acc rule : Int} {x : Sp} {L : List Sp} (h : okS none L = true) (hx : mayS x.1 x.2.1 x.2.2.1 x.2.2.2 = true) (h1 : x.1 = acc) (h2 : x.2.1 = rule) : okS none (putS acc rule x L) = true := by
  have hp := okS_pair h
  refine okS_of ?_ ?_ (fun o e => by cases e)
  · unfold putS
    rw [List.pairwise_append]
    refine ⟨hp.filter _, ?_, ?_⟩
    · rw [List.pairwise_cons]
      refine ⟨fun q hq => ?_, hp.filter _⟩
      have := behind_iff.1 (List.mem_filter.1 hq).2
      rw [ltO_iff, h1, h2]; exact this
    · intro s hs q hq
      have hs' := ahead_iff.1 (List.mem_filter.1 hs).2
      rw [ltO_iff]
      rcases List.mem_cons.1 hq with rfl | hq
      · rw [h1, h2]; exact hs'
      · have := behind_iff.1 (List.mem_filter.1 hq).2; omega
  · intro s hs
    unfold putS at hs
    rcases List.mem_append.1 hs with hs | hs
    · exact okS_may h s (List.mem_filter.1 hs).1
    · rcases List.mem_cons.1 hs with rfl | hs
      · exact hx
      · exact okS_may h s (List.mem_filter.1 hs).1
theorem put_find {acc rule : Int} {x : Sp} {L : List Sp} (h1 : x.1 = acc) (h2 : x.2.1 = rule) : (putS acc rule x L).find? (isO acc rule) = some x := by
  unfold putS
  rw [List.find?_append, List.find?_eq_none.2]
  · simp [List.find?_cons, isO_iff.2 ⟨h1, h2⟩]
  · intro s hs
    have := ahead_iff.1 (List.mem_filter.1 hs).2
    rw [isO_iff]; omega
theorem find_filter {p q : Sp → Bool} (l : List Sp) (h : ∀ s, q s = true → p s = true) : (l.filter p).find? q = l.find? q := by
  induction l with
  | nil => rfl
  | cons s l ih =>
    cases hq : q s with
    | true => rw [List.filter_cons, if_pos (h s hq), List.find?_cons, hq, List.find?_cons, hq]
    | false =>
      rw [List.find?_cons, hq]
      cases hp : p s with
      | true => rw [List.filter_cons, if_pos hp, List.find?_cons, hq]; exact ih
      | false => rw [List.filter_cons, if_neg (by rw [hp]; decide)]; exact ih
theorem find_none_filter {p q : Sp → Bool} (l : List Sp) (h : ∀ s, q s = true → p s = false) : (l.filter p).find? q = none := by
  rw [List.find?_eq_none]
  intro s hs hq
  have := (List.mem_filter.1 hs).2
  rw [h s hq] at this; cases this
theorem put_find_other {acc rule oa orl : Int} {x : Sp} {L : List Sp} (h1 : x.1 = acc) (h2 : x.2.1 = rule) (hne : ¬ (oa = acc ∧ orl = rule)) : (putS acc rule x L).find? (isO oa orl) = L.find? (isO oa orl) := by
  unfold putS
  have hx : isO oa orl x = false := by rw [← Bool.not_eq_true, isO_iff]; omega
  rw [List.find?_append, List.find?_cons, hx]
  rcases (by omega : (oa < acc ∨ oa = acc ∧ orl < rule) ∨ (acc < oa ∨ acc = oa ∧ rule < orl)) with g | g
  · rw [find_filter L (fun s hs => by rw [isO_iff] at hs; rw [ahead_iff]; omega), find_none_filter L (fun s hs => by rw [isO_iff] at hs; rw [behind_no]; omega)]
    simp
  · rw [find_none_filter L (fun s hs => by rw [isO_iff] at hs; rw [ahead_no]; omega), find_filter L (fun s hs => by rw [isO_iff] at hs; rw [behind_iff]; omega)]
    rfl
theorem put_len {acc rule : Int} {x : Sp} {L : List Sp} (h : okS none L = true) : (putS acc rule x L).length = if (L.find? (isO acc rule)).isSome then L.length else L.length + 1 := by
  unfold putS
  rw [List.length_append, List.length_cons]
  have hsum : ∀ l : List Sp, (l.filter (aheadS acc rule)).length + (l.filter (behindS acc rule)).length + (l.filter (isO acc rule)).length = l.length := by
    intro l
    induction l with
    | nil => rfl
    | cons s l ih =>
      rw [List.filter_cons, List.filter_cons, List.filter_cons]
      rcases (by omega : (s.1 < acc ∨ s.1 = acc ∧ s.2.1 < rule) ∨ (acc < s.1 ∨ acc = s.1 ∧ rule < s.2.1) ∨ (s.1 = acc ∧ s.2.1 = rule)) with g | g | g
      · rw [if_pos (ahead_iff.2 g), if_neg (by rw [behind_iff]; omega), if_neg (by rw [isO_iff]; omega)]; simp; omega
      · rw [if_neg (by rw [ahead_iff]; omega), if_pos (behind_iff.2 g), if_neg (by rw [isO_iff]; omega)]; simp; omega
      · rw [if_neg (by rw [ahead_iff]; omega), if_neg (by rw [behind_iff]; omega), if_pos (isO_iff.2 g)]; simp; omega
  have hs := hsum L
  have hone : (L.filter (isO acc rule)).length = if (L.find? (isO acc rule)).isSome then 1 else 0 := by
    clear hs hsum
    have hp := okS_pair h
    clear h
    induction L with
    | nil => rfl
    | cons s l ih =>
      rw [List.pairwise_cons] at hp
      rw [List.filter_cons, List.find?_cons]
      cases hi : isO acc rule s with
      | true =>
        have : l.filter (isO acc rule) = [] := List.filter_eq_nil_iff.2 fun q hq hiq => by
          have := hp.1 q hq
          rw [ltO_iff] at this; rw [isO_iff] at hi hiq; omega
        simp [this]
      | false => simpa using ih hp.2
  split at hone <;> rename_i hf
  · rw [if_pos hf]; omega
  · rw [if_neg hf]; omega
end Go.Proofs.Ytnjmhijfaijopaa

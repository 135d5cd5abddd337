/- What names, labels and patterns are, plainly: lists of bytes, cut at dots. -/
import Derived.Test.YtcmkfomfmjgmpaaRows
namespace Gs
set_option linter.unusedVariables false

/-- a to z, 0 to 9. -/
def wordB (c : Nat) : Bool := decide (97 ≤ c ∧ c ≤ 122) || decide (48 ≤ c ∧ c ≤ 57)
/-- May the byte at place i stand there in a label? -/
def okAt (l : List UInt8) (i : Nat) : Bool :=
  wordB (l[i]?.getD 0).toNat || (decide ((l[i]?.getD 0).toNat = 45) && decide (i ≠ 0) && decide (i + 1 ≠ l.length)) || (decide ((l[i]?.getD 0).toNat = 95) && decide (i = 0) && decide (i + 1 ≠ l.length))
def okTo (l : List UInt8) (n : Nat) : Bool := (List.range n).all (okAt l)
def labB (l : List UInt8) : Bool := okTo l l.length && decide (1 ≤ l.length ∧ l.length ≤ 16)
theorem okTo_succ (l : List UInt8) (n : Nat) : okTo l (n + 1) = (okTo l n && okAt l n) := by
  unfold okTo
  rw [List.range_succ, List.all_append]
  simp
theorem okTo_false {l : List UInt8} {i n : Nat} (h : okAt l i = false) (hi : i < n) : okTo l n = false := by
  unfold okTo
  rw [List.all_eq_false]
  exact ⟨i, List.mem_range.2 hi, by rw [h]; simp⟩

/-- The same of a label as the document tells it: its last byte, its first one, and all behind the first one. -/
def midB (l : List UInt8) (n : Nat) : Bool := (List.range n).all fun i => decide (i = 0) || wordB (l[i]?.getD 0).toNat || decide ((l[i]?.getD 0).toNat = 45)
theorem midB_succ (l : List UInt8) (n : Nat) : midB l (n + 1) = (midB l n && (decide (n = 0) || wordB (l[n]?.getD 0).toNat || decide ((l[n]?.getD 0).toNat = 45))) := by
  unfold midB
  rw [List.range_succ, List.all_append]
  simp
theorem midB_false {l : List UInt8} {i n : Nat} (h0 : i ≠ 0) (h1 : wordB (l[i]?.getD 0).toNat = false) (h2 : (l[i]?.getD 0).toNat ≠ 45) (hi : i < n) : midB l n = false := by
  unfold midB
  rw [List.all_eq_false]
  exact ⟨i, List.mem_range.2 hi, by simp [h0, h1, h2]⟩
theorem labB_ref {l : List UInt8} (h : 1 ≤ l.length ∧ l.length ≤ 16) : labB l = (wordB (l[l.length - 1]?.getD 0).toNat && (wordB (l[0]?.getD 0).toNat || decide ((l[0]?.getD 0).toNat = 95)) && midB l l.length) := by
  unfold labB
  rw [decide_eq_true h, Bool.and_true, Bool.eq_iff_iff, Bool.and_eq_true, Bool.and_eq_true]
  unfold okTo midB
  rw [List.all_eq_true, List.all_eq_true]
  constructor
  · intro H
    refine ⟨⟨?_, ?_⟩, ?_⟩
    · have := H (l.length - 1) (List.mem_range.2 (by omega))
      unfold okAt at this
      have e : l.length - 1 + 1 = l.length := by omega
      simp [e] at this
      exact this
    · have := H 0 (List.mem_range.2 (by omega))
      unfold okAt at this
      simp at this ⊢
      rcases this with h | h
      · exact .inl h
      · exact .inr h.1
    · intro i hi
      have := H i hi
      unfold okAt at this
      simp at this ⊢
      rcases this with (h | h) | h
      · exact .inl (.inr h)
      · exact .inr h.1.1
      · exact .inl (.inl h.1.2)
  · rintro ⟨⟨h1, h2⟩, h3⟩ i hi
    have hi' := List.mem_range.1 hi
    have h4 := h3 i hi
    unfold okAt
    by_cases hl : i + 1 = l.length
    · have e : l.length - 1 = i := by omega
      rw [e] at h1
      simp [h1]
    · by_cases h0 : i = 0
      · subst h0
        simp at h2 ⊢
        rcases h2 with h2 | h2
        · exact .inl h2
        · exact .inr ⟨h2, by omega⟩
      · simp [h0, hl] at h4 ⊢
        exact h4

/-- A text, cut at its dots. -/
def cuts : List UInt8 → List (List UInt8)
  | [] => [[]]
  | c :: l => if c = 46 then [] :: cuts l else match cuts l with | [] => [[c]] | h :: t => (c :: h) :: t
def joinD : List (List UInt8) → List UInt8
  | [] => []
  | [c] => c
  | c :: d :: t => c ++ 46 :: joinD (d :: t)
theorem cuts_ne (l : List UInt8) : cuts l ≠ [] := by
  cases l with
  | nil => simp [cuts]
  | cons c l => unfold cuts; split; simp; split <;> simp
theorem cuts_dot (l : List UInt8) : cuts (46 :: l) = [] :: cuts l := by simp [cuts]
theorem cuts_cons {c : UInt8} (h : c ≠ 46) (l : List UInt8) : ∃ d t, cuts l = d :: t ∧ cuts (c :: l) = (c :: d) :: t := by
  cases hc : cuts l with
  | nil => exact absurd hc (cuts_ne l)
  | cons d t => exact ⟨d, t, rfl, by simp [cuts, h, hc]⟩
theorem joinD_cons (c : List UInt8) {t : List (List UInt8)} (ht : t ≠ []) : joinD (c :: t) = c ++ 46 :: joinD t := by
  cases t with
  | nil => exact absurd rfl ht
  | cons d t => rfl
theorem joinD_cuts (l : List UInt8) : joinD (cuts l) = l := by
  induction l with
  | nil => rfl
  | cons c l ih =>
    by_cases h : c = 46
    · subst h
      rw [cuts_dot, joinD_cons _ (cuts_ne l), ih]; rfl
    · obtain ⟨d, t, e1, e2⟩ := cuts_cons h l
      rw [e2]
      rw [e1] at ih
      cases t with
      | nil => simp [joinD] at ih ⊢; exact ih
      | cons d' t => simp [joinD] at ih ⊢; exact ih
theorem cuts_none (l : List UInt8) : ∀ c ∈ cuts l, 46 ∉ c := by
  induction l with
  | nil => simp [cuts]
  | cons c l ih =>
    by_cases h : c = 46
    · subst h
      rw [cuts_dot]
      intro d hd
      rcases List.mem_cons.1 hd with rfl | hd
      · simp
      · exact ih d hd
    · obtain ⟨d, t, e1, e2⟩ := cuts_cons h l
      rw [e2]; rw [e1] at ih
      intro x hx
      rcases List.mem_cons.1 hx with rfl | hx
      · have := ih d (List.mem_cons_self ..)
        simp; exact ⟨fun e => h e.symm, this⟩
      · exact ih x (List.mem_cons_of_mem _ hx)
theorem cuts_one {l : List UInt8} (h : 46 ∉ l) : cuts l = [l] := by
  induction l with
  | nil => rfl
  | cons c l ih =>
    have hc : c ≠ 46 := fun e => h (by rw [e]; exact List.mem_cons_self ..)
    have hl : 46 ∉ l := fun e => h (List.mem_cons_of_mem _ e)
    obtain ⟨d, t, e1, e2⟩ := cuts_cons hc l
    rw [ih hl] at e1
    cases e1
    exact e2
theorem cuts_app {c : List UInt8} (h : 46 ∉ c) (l : List UInt8) : cuts (c ++ 46 :: l) = c :: cuts l := by
  induction c with
  | nil => exact cuts_dot l
  | cons x c ih =>
    have hx : x ≠ 46 := fun e => h (by rw [e]; exact List.mem_cons_self ..)
    have hc : 46 ∉ c := fun e => h (List.mem_cons_of_mem _ e)
    obtain ⟨d, t, e1, e2⟩ := cuts_cons hx (c ++ 46 :: l)
    rw [ih hc] at e1
    cases e1
    exact e2
theorem cuts_joinD {C : List (List UInt8)} (h0 : C ≠ []) (h : ∀ c ∈ C, 46 ∉ c) : cuts (joinD C) = C := by
  induction C with
  | nil => exact absurd rfl h0
  | cons c t ih =>
    by_cases ht : t = []
    · subst ht; exact cuts_one (h c (List.mem_cons_self ..))
    · rw [joinD_cons c ht, cuts_app (h c (List.mem_cons_self ..)), ih ht (fun x hx => h x (List.mem_cons_of_mem _ hx))]

/-- The last dot, and all that stands between. -/
theorem joinD_app {D F : List (List UInt8)} (hD : D ≠ []) (hF : F ≠ []) : joinD (D ++ F) = joinD D ++ 46 :: joinD F := by
  induction D with
  | nil => exact absurd rfl hD
  | cons c D ih =>
    by_cases h : D = []
    · subst h; exact joinD_cons c hF
    · rw [List.cons_append, joinD_cons c (by simp [h]), joinD_cons c h, ih h]; simp
theorem last_unique {a b a' b' : List UInt8} (h : a ++ 46 :: b = a' ++ 46 :: b') (hb : 46 ∉ b) (hb' : 46 ∉ b') : a = a' ∧ b = b' := by
  induction a generalizing a' with
  | nil =>
    cases a' with
    | nil => simp at h; exact ⟨rfl, h⟩
    | cons x a' =>
      simp at h
      exact absurd (h.2 ▸ (by simp : (46 : UInt8) ∈ a' ++ 46 :: b')) hb
  | cons y a ih =>
    cases a' with
    | nil =>
      simp at h
      exact absurd (h.2 ▸ (by simp : (46 : UInt8) ∈ a ++ 46 :: b)) hb'
    | cons x a' =>
      simp at h
      obtain ⟨e1, e2⟩ := ih h.2
      exact ⟨by rw [h.1, e1], e2⟩

/-- What stands behind each of a text's dots. -/
def sufs : List UInt8 → List (List UInt8)
  | [] => []
  | c :: l => if c = 46 then l :: sufs l else sufs l
/-- What stands behind a text's first dot. -/
def behind : List UInt8 → List UInt8
  | [] => []
  | c :: l => if c = 46 then l else behind l
theorem sufs_app {c : List UInt8} (h : 46 ∉ c) (l : List UInt8) : sufs (c ++ 46 :: l) = l :: sufs l := by
  induction c with
  | nil => simp [sufs]
  | cons x c ih =>
    have hx : x ≠ 46 := fun e => h (by rw [e]; exact List.mem_cons_self ..)
    have hc : 46 ∉ c := fun e => h (List.mem_cons_of_mem _ e)
    simp only [List.cons_append, sufs, if_neg hx]
    exact ih hc
theorem sufs_one {l : List UInt8} (h : 46 ∉ l) : sufs l = [] := by
  induction l with
  | nil => rfl
  | cons x c ih =>
    have hx : x ≠ 46 := fun e => h (by rw [e]; exact List.mem_cons_self ..)
    have hc : 46 ∉ c := fun e => h (List.mem_cons_of_mem _ e)
    simp only [sufs, if_neg hx]
    exact ih hc
theorem behind_app {c : List UInt8} (h : 46 ∉ c) (l : List UInt8) : behind (c ++ 46 :: l) = l := by
  induction c with
  | nil => simp [behind]
  | cons x c ih =>
    have hx : x ≠ 46 := fun e => h (by rw [e]; exact List.mem_cons_self ..)
    have hc : 46 ∉ c := fun e => h (List.mem_cons_of_mem _ e)
    simp only [List.cons_append, behind, if_neg hx]
    exact ih hc
theorem behind_one {l : List UInt8} (h : 46 ∉ l) : behind l = [] := by
  induction l with
  | nil => rfl
  | cons x c ih =>
    have hx : x ≠ 46 := fun e => h (by rw [e]; exact List.mem_cons_self ..)
    have hc : 46 ∉ c := fun e => h (List.mem_cons_of_mem _ e)
    simp only [behind, if_neg hx]
    exact ih hc
/-- A text is one label, or a label, a dot, and a text. -/
theorem text_cases (l : List UInt8) : 46 ∉ l ∨ ∃ c r, l = c ++ 46 :: r ∧ 46 ∉ c := by
  induction l with
  | nil => left; simp
  | cons x l ih =>
    by_cases hx : x = 46
    · subst hx; exact .inr ⟨[], l, rfl, by simp⟩
    · rcases ih with h | ⟨c, r, rfl, hc⟩
      · left; simp; exact ⟨fun e => hx e.symm, h⟩
      · right; exact ⟨x :: c, r, rfl, by simp; exact ⟨fun e => hx e.symm, hc⟩⟩
theorem sufs_joinD {C : List (List UInt8)} (h0 : C ≠ []) (h : ∀ c ∈ C, 46 ∉ c) (t : List UInt8) : t ∈ sufs (joinD C) ↔ ∃ k, 1 ≤ k ∧ k < C.length ∧ t = joinD (C.drop k) := by
  induction C with
  | nil => exact absurd rfl h0
  | cons c T ih =>
    by_cases ht : T = []
    · subst ht
      rw [show joinD [c] = c from rfl, sufs_one (h c (List.mem_cons_self ..))]
      constructor
      · intro h; cases h
      · rintro ⟨k, h1, h2, _⟩; simp at h2; omega
    · rw [joinD_cons c ht, sufs_app (h c (List.mem_cons_self ..)), List.mem_cons, ih ht (fun x hx => h x (List.mem_cons_of_mem _ hx))]
      constructor
      · rintro (rfl | ⟨k, h1, h2, rfl⟩)
        · exact ⟨1, by omega, by cases T; exact absurd rfl ht; simp, rfl⟩
        · exact ⟨k + 1, by omega, by simp; omega, rfl⟩
      · rintro ⟨k, h1, h2, rfl⟩
        obtain ⟨k, rfl⟩ : ∃ j, k = j + 1 := ⟨k - 1, by omega⟩
        by_cases hk : k = 0
        · subst hk; left; rfl
        · right; exact ⟨k, by omega, by simp at h2; omega, rfl⟩
theorem sufs_len {l t : List UInt8} (h : t ∈ sufs l) : t.length < l.length := by
  induction l with
  | nil => cases h
  | cons x l ih =>
    unfold sufs at h
    split at h
    · rcases List.mem_cons.1 h with rfl | h
      · simp
      · have := ih h; simp; omega
    · have := ih h; simp; omega
theorem sufs_trans {a b c : List UInt8} (h1 : b ∈ sufs a) (h2 : c ∈ sufs b) : c ∈ sufs a := by
  induction a with
  | nil => cases h1
  | cons x l ih =>
    unfold sufs at h1 ⊢
    split at h1
    · rename_i hx
      rw [if_pos hx]
      rcases List.mem_cons.1 h1 with rfl | h1
      · exact List.mem_cons_of_mem _ h2
      · exact List.mem_cons_of_mem _ (ih h1)
    · rename_i hx
      rw [if_neg hx]
      exact ih h1

/-- A name of at most so many labels and bytes. -/
def nameN (labels text : Nat) (l : List UInt8) : Bool := decide (l.length ≤ text) && (decide ((cuts l).length ≤ labels) && (cuts l).all labB)
def nameB (l : List UInt8) : Bool := nameN 8 64 l
/-- What stands behind a star. -/
def stB : List UInt8 → Option (List UInt8)
  | a :: b :: l => if a = 42 ∧ b = 46 then some l else none
  | _ => none
def patB (l : List UInt8) : Bool := match stB l with | some o => nameN 7 62 o | none => nameB l
def upB (l : List UInt8) : List UInt8 := if nameB l then behind l else []
def belowB (s t : List UInt8) : Bool := decide (t ∈ sufs s)
def underB (s a : List UInt8) : Bool := nameB s && (decide (a = []) || decide (s = a) || belowB s a)
def matchB (p s : List UInt8) : Bool := patB p && nameB s && (match stB p with | some o => belowB s o | none => decide (p = s))
def withinB (p q : List UInt8) : Bool := match stB p with
  | none => matchB q p
  | some o => match stB q with
    | none => false
    | some i => patB p && patB q && (decide (o = i) || belowB o i)
def meetsB (p q : List UInt8) : Bool := withinB p q || withinB q p
def labelsB (l : List UInt8) : List (List UInt8) := if nameB l then cuts l else []

theorem stB_some {l o : List UInt8} (h : stB l = some o) : l = 42 :: 46 :: o := by
  match l, h with
  | a :: b :: l, h =>
    by_cases e : a = 42 ∧ b = 46
    · simp only [stB, if_pos e] at h
      rw [← Option.some.inj h, e.1, e.2]
    · simp only [stB, if_neg e] at h
      exact absurd h (by simp)
theorem stB_star (o : List UInt8) : stB (42 :: 46 :: o) = some o := rfl
theorem lab_first {l : List UInt8} (h : labB l = true) : ∃ c r, l = c :: r ∧ (wordB c.toNat = true ∨ c = 95) := by
  unfold labB at h
  rw [Bool.and_eq_true, decide_eq_true_eq] at h
  obtain ⟨h1, h2, h3⟩ := h
  match l, h2 with
  | c :: r, _ =>
    refine ⟨c, r, rfl, ?_⟩
    unfold okTo at h1
    have := (List.all_eq_true.1 h1) 0 (List.mem_range.2 (by simp))
    unfold okAt at this
    simp at this
    rcases this with h | h
    · left; exact h
    · right; exact UInt8.toNat_inj.1 h.1
theorem name_first {a b : Nat} {l : List UInt8} (h : nameN a b l = true) : ∃ c r, l = c :: r ∧ (wordB c.toNat = true ∨ c = 95) := by
  unfold nameN at h
  rw [Bool.and_eq_true, Bool.and_eq_true] at h
  have hall := List.all_eq_true.1 h.2.2
  rcases text_cases l with hl | ⟨c, r, rfl, hc⟩
  · rw [cuts_one hl] at hall
    exact lab_first (hall l (List.mem_singleton.2 rfl))
  · rw [cuts_app hc] at hall
    obtain ⟨x, y, rfl, hx⟩ := lab_first (hall c (List.mem_cons_self ..))
    exact ⟨x, y ++ 46 :: r, rfl, hx⟩
theorem name_nostar {a b : Nat} {l : List UInt8} (h : nameN a b l = true) : stB l = none := by
  obtain ⟨c, r, rfl, hc⟩ := name_first h
  have hne : c ≠ 42 := by
    rintro rfl
    rcases hc with hc | hc
    · revert hc; decide
    · revert hc; decide
  cases r with
  | nil => rfl
  | cons d r => simp [stB, hne]
theorem name_ne {a b : Nat} {l : List UInt8} (h : nameN a b l = true) : l ≠ [] := by
  obtain ⟨c, r, rfl, _⟩ := name_first h
  simp
/-- Behind a dot of a name stands a name, of less labels. -/
theorem name_suf {a b : Nat} {l t : List UInt8} (h : nameN a b l = true) (ht : t ∈ sufs l) : nameN (a - 1) (b - 2) t = true ∧ t ≠ [] := by
  have hC := joinD_cuts l
  have h0 := cuts_ne l
  have hn := cuts_none l
  rw [← hC, sufs_joinD h0 hn] at ht
  obtain ⟨k, h1, h2, rfl⟩ := ht
  have hd0 : (cuts l).drop k ≠ [] := by rw [ne_eq, List.drop_eq_nil_iff]; omega
  have hc : cuts (joinD ((cuts l).drop k)) = (cuts l).drop k := cuts_joinD hd0 (fun c hc => hn c (List.mem_of_mem_drop hc))
  unfold nameN at h ⊢
  rw [Bool.and_eq_true, Bool.and_eq_true, decide_eq_true_eq, decide_eq_true_eq] at h
  obtain ⟨g1, g2, g3⟩ := h
  have hlab := List.all_eq_true.1 g3
  have hlen : (joinD ((cuts l).drop k)).length + 2 ≤ l.length := by
    match hcc : cuts l, h2, hlab with
    | c :: T, h2, hlab =>
      have hT : T ≠ [] := by rintro rfl; simp at h2; omega
      have hl : l = c ++ 46 :: joinD T := by rw [← hC, hcc]; exact joinD_cons c hT
      obtain ⟨x, y, rfl, _⟩ := lab_first (hlab c (List.mem_cons_self ..))
      have hTn : ∀ c ∈ T, 46 ∉ c := fun d hd => hn d (by rw [hcc]; exact List.mem_cons_of_mem _ hd)
      have hle : (joinD (List.drop k ((x :: y) :: T))).length ≤ (joinD T).length := by
        obtain ⟨k, rfl⟩ : ∃ j, k = j + 1 := ⟨k - 1, by omega⟩
        rw [List.drop_succ_cons]
        by_cases hk : k = 0
        · subst hk; exact Nat.le_refl _
        · have := sufs_len ((sufs_joinD hT hTn (joinD (T.drop k))).2 ⟨k, by omega, by simp at h2; omega, rfl⟩)
          omega
      rw [hl]
      simp at hle ⊢
      omega
  refine ⟨?_, ?_⟩
  · rw [hc, Bool.and_eq_true, Bool.and_eq_true, decide_eq_true_eq, decide_eq_true_eq]
    exact ⟨by omega, by rw [List.length_drop]; omega, List.all_eq_true.2 (fun c hc => hlab c (List.mem_of_mem_drop hc))⟩
  · intro e
    have : cuts (joinD ((cuts l).drop k)) = [[]] := by rw [e]; rfl
    rw [hc] at this
    have hm : ([] : List UInt8) ∈ cuts l := List.mem_of_mem_drop (i := k) (by rw [this]; exact List.mem_cons_self ..)
    obtain ⟨_, _, e', _⟩ := lab_first (hlab [] hm)
    cases e'
end Gs

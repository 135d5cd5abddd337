/- The document's answers of names: Under, Match, Within, Meets; whether two rows of texts are the same. -/
import Derived.Test.YtcmkfomfmjgmpaaNamesJ
namespace Go.Proofs.Ytcmkfomfmjgmpaa
open Go.ChangeShapes Go.WideShapes Go.ChangeAt Go.RowKit Go.Shelf Gs
set_option linter.unusedVariables false
attribute [local go_sem] Oper.semAt_some

set_option maxHeartbeats 2000000 in
theorem Under11_any (s a : ByteArray) (w : World) :
    Calls Try.prog 24 #[.string s, .string a] w fun e w' => e = .returned (.bool (underB (bl s) (bl a))) ∧ Below w.heap.size w w' := by
  cases hn : nameB (bl s)
  · have C := Lib.hid (Name11_is s _ hn)
    have HE := Lib.hid (show underB (bl s) (bl a) = false by unfold underB; rw [hn]; rfl)
    clear hn
    rw [HE.out]
    go_enter Try.func24, Try.ntmps24
    go_wp2_with fail
    refine (C.out _).mono ?_; rintro e w1 ⟨rfl, b⟩
    go_wp2_with fail
    go_ret
    exact ⟨rfl, b⟩
  have C := Lib.hid (Name11_is s _ hn)
  have PB := Lib.hid (below11_any s a hn)
  have HE := Lib.hid (show underB (bl s) (bl a) = (decide (bl a = []) || decide (bl s = bl a) || belowB (bl s) (bl a)) by unfold underB; rw [hn]; rfl)
  clear hn
  rw [HE.out]
  by_cases ha : bl a = []
  · have q1 : a.toList.isEmpty = true := by rw [isEmpty_bl]; exact decide_eq_true ha
    have q2 : a.toList = [] := by rw [tl]; exact ha
    rw [decide_eq_true ha]
    clear ha
    go_enter Try.func24, Try.ntmps24
    go_wp2_with fail
    refine (C.out _).mono ?_; rintro e w1 ⟨rfl, b⟩
    go_wp2_with fail
    go_ret
    exact ⟨rfl, b⟩
  have q1 : a.toList.isEmpty = false := by rw [isEmpty_bl]; exact decide_eq_false ha
  have q2 : ¬ a.toList = [] := by rw [tl]; exact ha
  rw [decide_eq_false ha, Bool.false_or]
  clear ha
  by_cases he : bl s = bl a
  · have q3 : (s.toList == a.toList) = true := by rw [beq_bl]; exact decide_eq_true he
    have q4 : s.toList = a.toList := by rw [tl, tl]; exact he
    rw [decide_eq_true he]
    clear he
    go_enter Try.func24, Try.ntmps24
    go_wp2_with fail
    refine (C.out _).mono ?_; rintro e w1 ⟨rfl, b⟩
    go_wp2_with fail
    go_ret
    exact ⟨rfl, b⟩
  · have q3 : (s.toList == a.toList) = false := by rw [beq_bl]; exact decide_eq_false he
    have q4 : ¬ s.toList = a.toList := by rw [tl, tl]; exact he
    rw [decide_eq_false he, Bool.false_or]
    clear he
    go_enter Try.func24, Try.ntmps24
    go_wp2_with fail
    refine (C.out _).mono ?_; rintro e w1 ⟨rfl, b⟩
    have B := Lib.hid b
    clear b
    go_wp2_with fail
    refine (PB.out _).mono ?_; rintro e w2 ⟨rfl, b⟩
    go_wp2_with fail
    go_ret
    exact ⟨rfl, bon B.out b⟩

theorem match_star {p s o : List UInt8} (h : starO p = some o) (hn : nameB s = true) : matchB p s = belowB s o := by
  unfold matchB; rw [patB_star h, hn, (starO_some h).1]; rfl
theorem match_plain {p s : List UInt8} (h : starO p = none) (hn : nameB s = true) : matchB p s = decide (p = s) := by
  unfold matchB
  rw [patB_no_star h, hn]
  cases hs : stB p with
  | none =>
    simp only [Bool.and_true]
    by_cases e : p = s
    · subst e; rw [hn]; simp
    · simp [e]
  | some o =>
    have : ¬ p = s := by rintro rfl; rw [name_nostar hn] at hs; cases hs
    have h2 : nameB p = false := by
      cases hp : nameB p
      · rfl
      · rw [name_nostar hp] at hs; cases hs
    rw [h2]; simp [this]
theorem match_noname {p s : List UInt8} (hn : nameB s = false) : matchB p s = false := by
  unfold matchB; rw [hn, Bool.and_false]; rfl

set_option maxHeartbeats 2000000 in
theorem Match11_any (p s : ByteArray) (w : World) :
    Calls Try.prog 26 #[.string p, .string s] w fun e w' => e = .returned (.bool (matchB (bl p) (bl s))) ∧ Below w.heap.size w w' := by
  cases hn : nameB (bl s)
  · have C := Lib.hid (Name11_is s _ hn)
    rw [match_noname hn]
    clear hn
    go_enter Try.func26, Try.ntmps26
    go_wp2_with fail
    refine (C.out _).mono ?_; rintro e w1 ⟨rfl, b⟩
    go_wp2_with fail
    go_ret
    exact ⟨rfl, b⟩
  have C := Lib.hid (Name11_is s _ hn)
  cases hs : starO (bl p) with
  | some o =>
    have P := Lib.hid (Star11_yes p o hs)
    have PB := Lib.hid (below11_any s ⟨o.toArray⟩ hn)
    rw [bl_mk] at PB
    rw [match_star hs hn]
    clear hn hs
    go_enter Try.func26, Try.ntmps26
    go_wp2_with fail
    refine (C.out _).mono ?_; rintro e w1 ⟨rfl, b⟩
    have B := Lib.hid b
    clear b
    go_wp2_with fail
    refine (P.out _).mono ?_; rintro e w2 ⟨rfl, b⟩
    have B2 := Lib.hid (bon B.out b)
    clear b
    go_wp2_with fail
    refine (PB.out _).mono ?_; rintro e w3 ⟨rfl, b⟩
    go_wp2_with fail
    go_ret
    exact ⟨rfl, bon B2.out b⟩
  | none =>
    have P := Lib.hid (Star11_no p hs)
    rw [match_plain hs hn, ← beq_bl]
    clear hn hs
    go_enter Try.func26, Try.ntmps26
    go_wp2_with fail
    refine (C.out _).mono ?_; rintro e w1 ⟨rfl, b⟩
    have B := Lib.hid b
    clear b
    go_wp2_with fail
    refine (P.out _).mono ?_; rintro e w2 ⟨rfl, b⟩
    go_wp2_with fail
    go_ret
    exact ⟨rfl, bon B.out b⟩

theorem stB_pat {l : List UInt8} (h : patB l = true) : starO l = stB l := by
  unfold patB at h
  unfold starO
  cases hs : stB l with
  | none => rfl
  | some o => rw [hs] at h; simp only at h ⊢; rw [if_pos h]
theorem within_nop {p q : List UInt8} (h : patB p = false) : withinB p q = false := by
  unfold withinB
  cases hs : stB p with
  | none =>
    have : nameB p = false := by unfold patB at h; rw [hs] at h; exact h
    exact match_noname this
  | some o =>
    cases hq : stB q with
    | none => rfl
    | some i => rw [h]; rfl
theorem within_noq {p q : List UInt8} (h : patB q = false) : withinB p q = false := by
  unfold withinB
  cases hs : stB p with
  | none => unfold matchB; rw [h]; rfl
  | some o =>
    cases hq : stB q with
    | none => rfl
    | some i => rw [h]; simp
theorem within_plain {p q : List UInt8} (h : starO p = none) : withinB p q = matchB q p := by
  cases hs : stB p with
  | none => unfold withinB; rw [hs]
  | some o =>
    have hp : patB p = false := by unfold patB; rw [hs]; exact starO_none h o hs
    have hn : nameB p = false := by
      cases hn : nameB p
      · rfl
      · rw [name_nostar hn] at hs; cases hs
    rw [within_nop hp, match_noname hn]
theorem within_stars {p q o i : List UInt8} (h : starO p = some o) (h' : starO q = some i) : withinB p q = (decide (o = i) || belowB o i) := by
  unfold withinB
  rw [(starO_some h).1, (starO_some h').1, patB_star h, patB_star h']; rfl
theorem star_noname {p o : List UInt8} (h : starO p = some o) : nameB p = false := by
  cases hn : nameB p
  · rfl
  · have := (starO_some h).1; rw [name_nostar hn] at this; cases this
theorem within_star_no {p q o : List UInt8} (h : starO p = some o) (h' : starO q = none) : withinB p q = false := by
  cases hq : patB q
  · exact within_noq hq
  · rw [stB_pat hq] at h'
    unfold withinB
    rw [(starO_some h).1, h']
theorem meets_plain {p q : List UInt8} (h : starO p = none ∨ starO q = none) : meetsB p q = (matchB p q || matchB q p) := by
  have key : ∀ {p q : List UInt8}, (starO p = none ∨ starO q = none) → withinB p q = matchB q p := by
    intro p q h
    cases hp : starO p with
    | none => exact within_plain hp
    | some o =>
      have hq := h.resolve_left (by rw [hp]; simp)
      rw [within_star_no hp hq, match_noname (star_noname hp)]
  unfold meetsB
  rw [key h, key h.symm, Bool.or_comm]
theorem star_name {p o : List UInt8} (h : starO p = some o) : nameB o = true := nameN_mono (starO_some h).2 (by omega) (by omega)

theorem Pattern11_yes (s : ByteArray) (h : patB (bl s) = true) (w : World) : Calls Try.prog 16 #[.string s] w fun e w' => e = .returned (.int .i64 0) ∧ Below w.heap.size w w' := by
  have := Pattern11_any s w
  rwa [if_pos h] at this
theorem Pattern11_no (s : ByteArray) (h : patB (bl s) = false) (w : World) : Calls Try.prog 16 #[.string s] w fun e w' => e = .returned (.int .i64 110) ∧ Below w.heap.size w w' := by
  have := Pattern11_any s w
  rwa [if_neg (by rw [h]; simp)] at this

set_option maxHeartbeats 4000000 in
theorem Within11_any (p q : ByteArray) (w : World) :
    Calls Try.prog 28 #[.string p, .string q] w fun e w' => e = .returned (.bool (withinB (bl p) (bl q))) ∧ Below w.heap.size w w' := by
  cases hp : patB (bl p)
  · have P := Lib.hid (Pattern11_no p hp)
    rw [within_nop hp]
    clear hp
    go_enter Try.func28, Try.ntmps28
    go_wp2_with fail
    refine (P.out _).mono ?_; rintro e w1 ⟨rfl, b⟩
    go_wp2_with fail
    go_ret
    exact ⟨rfl, b⟩
  have P := Lib.hid (Pattern11_yes p hp)
  cases hq : patB (bl q)
  · have Q := Lib.hid (Pattern11_no q hq)
    rw [within_noq hq]
    clear hp hq
    go_enter Try.func28, Try.ntmps28
    go_wp2_with fail
    refine (P.out _).mono ?_; rintro e w1 ⟨rfl, b⟩
    have B := Lib.hid b
    clear b
    go_wp2_with fail
    refine (Q.out _).mono ?_; rintro e w2 ⟨rfl, b⟩
    go_wp2_with fail
    go_ret
    exact ⟨rfl, bon B.out b⟩
  have Q := Lib.hid (Pattern11_yes q hq)
  clear hp hq
  cases hs : starO (bl p) with
  | none =>
    have S := Lib.hid (Star11_no p hs)
    have M := Lib.hid (Match11_any q p)
    rw [within_plain hs]
    clear hs
    go_enter Try.func28, Try.ntmps28
    go_wp2_with fail
    refine (P.out _).mono ?_; rintro e w1 ⟨rfl, b⟩
    have B := Lib.hid b
    clear b
    go_wp2_with fail
    refine (Q.out _).mono ?_; rintro e w2 ⟨rfl, b⟩
    have B := Lib.hid (bon B.out b)
    clear b
    go_wp2_with fail
    refine (S.out _).mono ?_; rintro e w3 ⟨rfl, b⟩
    have B := Lib.hid (bon B.out b)
    clear b
    go_wp2_with fail
    refine (M.out _).mono ?_; rintro e w4 ⟨rfl, b⟩
    go_wp2_with fail
    go_ret
    exact ⟨rfl, bon B.out b⟩
  | some o =>
    have S := Lib.hid (Star11_yes p o hs)
    cases hs' : starO (bl q) with
    | none =>
      have S' := Lib.hid (Star11_no q hs')
      rw [within_star_no hs hs']
      clear hs hs'
      go_enter Try.func28, Try.ntmps28
      go_wp2_with fail
      refine (P.out _).mono ?_; rintro e w1 ⟨rfl, b⟩
      have B := Lib.hid b
      clear b
      go_wp2_with fail
      refine (Q.out _).mono ?_; rintro e w2 ⟨rfl, b⟩
      have B := Lib.hid (bon B.out b)
      clear b
      go_wp2_with fail
      refine (S.out _).mono ?_; rintro e w3 ⟨rfl, b⟩
      have B := Lib.hid (bon B.out b)
      clear b
      go_wp2_with fail
      refine (S'.out _).mono ?_; rintro e w4 ⟨rfl, b⟩
      go_wp2_with fail
      go_ret
      exact ⟨rfl, bon B.out b⟩
    | some i =>
      have S' := Lib.hid (Star11_yes q i hs')
      have PB := Lib.hid (below11_any ⟨o.toArray⟩ ⟨i.toArray⟩ (by rw [bl_mk]; exact star_name hs))
      rw [within_stars hs hs']
      have e0 := beq_bl ⟨o.toArray⟩ ⟨i.toArray⟩
      rw [bl_mk, bl_mk] at e0
      rw [← e0]
      rw [bl_mk, bl_mk] at PB
      clear hs hs' e0
      generalize (⟨o.toArray⟩ : ByteArray) = to at S PB ⊢
      generalize (⟨i.toArray⟩ : ByteArray) = ti at S' PB ⊢
      cases he : (to.toList == ti.toList)
      · rw [Bool.false_or]
        go_enter Try.func28, Try.ntmps28
        go_wp2_with fail
        refine (P.out _).mono ?_; rintro e w1 ⟨rfl, b⟩
        have B := Lib.hid b
        clear b
        go_wp2_with fail
        refine (Q.out _).mono ?_; rintro e w2 ⟨rfl, b⟩
        have B := Lib.hid (bon B.out b)
        clear b
        go_wp2_with fail
        refine (S.out _).mono ?_; rintro e w3 ⟨rfl, b⟩
        have B := Lib.hid (bon B.out b)
        clear b
        go_wp2_with fail
        refine (S'.out _).mono ?_; rintro e w4 ⟨rfl, b⟩
        have B := Lib.hid (bon B.out b)
        clear b
        go_wp2_with fail
        refine (PB.out _).mono ?_; rintro e w5 ⟨rfl, b⟩
        go_wp2_with fail
        go_ret
        exact ⟨rfl, bon B.out b⟩
      · rw [Bool.true_or]
        go_enter Try.func28, Try.ntmps28
        go_wp2_with fail
        refine (P.out _).mono ?_; rintro e w1 ⟨rfl, b⟩
        have B := Lib.hid b
        clear b
        go_wp2_with fail
        refine (Q.out _).mono ?_; rintro e w2 ⟨rfl, b⟩
        have B := Lib.hid (bon B.out b)
        clear b
        go_wp2_with fail
        refine (S.out _).mono ?_; rintro e w3 ⟨rfl, b⟩
        have B := Lib.hid (bon B.out b)
        clear b
        go_wp2_with fail
        refine (S'.out _).mono ?_; rintro e w4 ⟨rfl, b⟩
        go_wp2_with fail
        go_ret
        exact ⟨rfl, bon B.out b⟩

set_option maxHeartbeats 4000000 in
theorem Meets11_any (p q : ByteArray) (w : World) :
    Calls Try.prog 30 #[.string p, .string q] w fun e w' => e = .returned (.bool (meetsB (bl p) (bl q))) ∧ Below w.heap.size w w' := by
  have M1 := Lib.hid (Match11_any p q)
  have M2 := Lib.hid (Match11_any q p)
  cases hs : starO (bl p) with
  | none =>
    rw [meets_plain (.inl hs)]
    have S := Lib.hid (Star11_no p hs)
    have S' : Hid (∀ w : World, Calls Try.prog 34 #[.string q] w fun e w' => (∃ t b, e = .returned (.tuple #[.string t, .bool b])) ∧ Below w.heap.size w w') := Lib.hid (fun w => by
      cases hq : starO (bl q) with
      | none => exact (Star11_no q hq w).mono (fun e w' h => ⟨⟨_, _, h.1⟩, h.2⟩)
      | some i => exact (Star11_yes q i hq w).mono (fun e w' h => ⟨⟨_, _, h.1⟩, h.2⟩))
    clear hs
    go_enter Try.func30, Try.ntmps30
    go_wp2_with fail
    refine (S.out _).mono ?_; rintro e w1 ⟨rfl, b⟩
    have B := Lib.hid b
    clear b
    go_wp2_with fail
    refine (S'.out _).mono ?_; rintro e w2 ⟨⟨t, c, rfl⟩, b⟩
    have B := Lib.hid (bon B.out b)
    clear b
    go_wp2_with fail
    refine (M1.out _).mono ?_; rintro e w3 ⟨rfl, b⟩
    have B := Lib.hid (bon B.out b)
    clear b
    cases hm : matchB (bl p) (bl q)
    · go_wp2_with fail
      refine (M2.out _).mono ?_; rintro e w4 ⟨rfl, b⟩
      go_wp2_with fail
      go_ret
      exact ⟨by rw [hm]; rfl, bon B.out b⟩
    · go_wp2_with fail
      go_ret
      exact ⟨by rw [hm]; rfl, B.out⟩
  | some o =>
    have S := Lib.hid (Star11_yes p o hs)
    cases hs' : starO (bl q) with
    | none =>
      rw [meets_plain (.inr hs')]
      have S' := Lib.hid (Star11_no q hs')
      clear hs hs'
      go_enter Try.func30, Try.ntmps30
      go_wp2_with fail
      refine (S.out _).mono ?_; rintro e w1 ⟨rfl, b⟩
      have B := Lib.hid b
      clear b
      go_wp2_with fail
      refine (S'.out _).mono ?_; rintro e w2 ⟨rfl, b⟩
      have B := Lib.hid (bon B.out b)
      clear b
      go_wp2_with fail
      refine (M1.out _).mono ?_; rintro e w3 ⟨rfl, b⟩
      have B := Lib.hid (bon B.out b)
      clear b
      cases hm : matchB (bl p) (bl q)
      · go_wp2_with fail
        refine (M2.out _).mono ?_; rintro e w4 ⟨rfl, b⟩
        go_wp2_with fail
        go_ret
        exact ⟨by rw [hm]; rfl, bon B.out b⟩
      · go_wp2_with fail
        go_ret
        exact ⟨by rw [hm]; rfl, B.out⟩
    | some i =>
      have S' := Lib.hid (Star11_yes q i hs')
      have PB := Lib.hid (below11_any ⟨o.toArray⟩ ⟨i.toArray⟩ (by rw [bl_mk]; exact star_name hs))
      have PB' := Lib.hid (below11_any ⟨i.toArray⟩ ⟨o.toArray⟩ (by rw [bl_mk]; exact star_name hs'))
      unfold meetsB
      rw [within_stars hs hs', within_stars hs' hs]
      have e0 := beq_bl ⟨o.toArray⟩ ⟨i.toArray⟩
      rw [bl_mk, bl_mk] at e0
      rw [show decide (i = o) = decide (o = i) by rw [decide_eq_decide]; exact eq_comm, ← e0]
      rw [bl_mk, bl_mk] at PB PB'
      clear hs hs' e0
      generalize (⟨o.toArray⟩ : ByteArray) = to at S PB PB' ⊢
      generalize (⟨i.toArray⟩ : ByteArray) = ti at S' PB PB' ⊢
      cases he : (to.toList == ti.toList)
      · rw [Bool.false_or, Bool.false_or]
        go_enter Try.func30, Try.ntmps30
        go_wp2_with fail
        refine (S.out _).mono ?_; rintro e w1 ⟨rfl, b⟩
        have B := Lib.hid b
        clear b
        go_wp2_with fail
        refine (S'.out _).mono ?_; rintro e w2 ⟨rfl, b⟩
        have B := Lib.hid (bon B.out b)
        clear b
        go_wp2_with fail
        refine (PB.out _).mono ?_; rintro e w3 ⟨rfl, b⟩
        have B := Lib.hid (bon B.out b)
        clear b
        cases hm : belowB o i
        · go_wp2_with fail
          refine (PB'.out _).mono ?_; rintro e w4 ⟨rfl, b⟩
          go_wp2_with fail
          go_ret
          exact ⟨by rw [hm]; rfl, bon B.out b⟩
        · go_wp2_with fail
          go_ret
          exact ⟨by rw [hm]; rfl, B.out⟩
      · rw [Bool.true_or, Bool.true_or]
        go_enter Try.func30, Try.ntmps30
        go_wp2_with fail
        refine (S.out _).mono ?_; rintro e w1 ⟨rfl, b⟩
        have B := Lib.hid b
        clear b
        go_wp2_with fail
        refine (S'.out _).mono ?_; rintro e w2 ⟨rfl, b⟩
        go_wp2_with fail
        go_ret
        exact ⟨rfl, bon B.out b⟩
end Go.Proofs.Ytcmkfomfmjgmpaa

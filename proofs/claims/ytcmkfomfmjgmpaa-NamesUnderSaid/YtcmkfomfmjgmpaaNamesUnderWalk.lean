/- The walk of NamesUnder. -/
import Derived.Test.YtcmkfomfmjgmpaaNamesM
namespace Go.Proofs.Ytcmkfomfmjgmpaa
open Go.ChangeShapes Go.WideShapes Go.ChangeAt Go.RowKit Go.Shelf Gs
set_option linter.unusedVariables false

/-- On the way up: what is met so far, and what is still to come. -/
def UST (s apex : List UInt8) (k : Nat) (r : List UInt8) (met : Bool) : Prop :=
  (nameB r = true ∨ r = []) ∧ (r ≠ [] → (cuts r).length + k ≤ 8) ∧ (decide (s = apex) || belowB s apex) = (met || (decide (r ≠ []) && (decide (r = apex) || belowB r apex)))
theorem ust_0 {s apex : List UInt8} (h : nameB s = true) : UST s apex 0 s false :=
  ⟨.inl h, fun _ => (name_len h).2.2, by rw [decide_eq_true (name_ne h)]; simp⟩
theorem ust_step {s apex r : List UInt8} {k : Nat} {met : Bool} (h : UST s apex k r met) (h0 : r ≠ []) : UST s apex (k + 1) (behind r) (met || decide (r = apex)) := by
  obtain ⟨h1, h2, h3⟩ := h
  have hn := h1.resolve_right h0
  have h4 := h2 h0
  rw [decide_eq_true h0, Bool.true_and] at h3
  rcases text_cases r with hd | ⟨c, t, e, hc⟩
  · have hb : belowB r apex = false := by unfold belowB; rw [sufs_one hd]; rfl
    rw [behind_one hd]
    refine ⟨.inr rfl, fun h => absurd rfl h, ?_⟩
    rw [h3, hb]; simp
  · have hs : sufs r = t :: sufs t := by rw [e, sufs_app hc]
    have ht := suf_name hn (t := t) (by rw [hs]; exact List.mem_cons_self ..)
    have hcut : cuts r = c :: cuts t := by rw [e, cuts_app hc]
    rw [e, behind_app hc, ← e]
    refine ⟨.inl ht.1, fun _ => by rw [hcut] at h4; simp at h4; omega, ?_⟩
    rw [h3, decide_eq_true ht.2, Bool.true_and]
    have hb : belowB r apex = (decide (t = apex) || belowB t apex) := by
      unfold belowB
      rw [hs, Bool.eq_iff_iff, Bool.or_eq_true, decide_eq_true_eq, decide_eq_true_eq, decide_eq_true_eq, List.mem_cons]
      exact ⟨fun h => h.imp_left Eq.symm, fun h => h.imp_left Eq.symm⟩
    rw [hb, Bool.or_assoc]
theorem ust_end {s apex : List UInt8} {k : Nat} {r : List UInt8} {met : Bool} (h : UST s apex k r met) (hr : r = []) : (decide (s = apex) || belowB s apex) = met := by
  rw [h.2.2, hr]; simp
theorem ust_nine {s apex : List UInt8} {r : List UInt8} {met : Bool} (h : UST s apex 9 r met) : r = [] := by
  by_cases h0 : r = []
  · exact h0
  · have := h.2.1 h0
    have := List.length_pos_iff.2 (cuts_ne r)
    omega
theorem under_met {s apex : List UInt8} (h : nameB s = true) : underB s apex = (decide (apex = []) || (decide (s = apex) || belowB s apex)) := by
  unfold underB; rw [h, Bool.true_and, Bool.or_assoc]
theorem star_match {s apex : List UInt8} (h : nameB s = true) (hp : patB (42 :: 46 :: apex) = true) : matchB (42 :: 46 :: apex) s = belowB s apex := by
  refine match_star ?_ h
  rw [stB_pat hp]; rfl
theorem below_met {s apex : List UInt8} : belowB s apex = ((decide (s = apex) || belowB s apex) && !decide (s = apex)) := by
  by_cases e : s = apex
  · subst e
    rw [show belowB s s = false from decide_eq_false (fun h => Nat.lt_irrefl _ (sufs_len h))]; simp
  · simp [e]

set_option maxRecDepth 100000 in
set_option maxHeartbeats 8000000 in
theorem under_walk11 (s apex : ByteArray) (W : World) : Calls Try.prog 9 #[.string s, .string apex] W fun e w' => e = .returned (.bool true) ∧ Below W.heap.size W w' := by
  have A0 := Lib.hid live11
  by_cases hz : s.size ≤ 300 ∧ apex.size ≤ 300 ∧ (⟨#[]⟩ : ByteArray).size ≤ 300
  rotate_left 1
  · have A1 := Lib.hid (short_no s apex ⟨#[]⟩ hz)
    clear hz
    have B := Lib.hid (Below.refl W.heap.size W)
    go_enter Try.func9, Try.ntmps9
    repeat (go_wp2_with fail; first
      | (with_reducible refine (A0.out _).mono ?_; rintro e w_ ⟨rfl, b⟩; replace B := Lib.hid (bon B.out b); clear b)
      | (with_reducible refine (A1.out _).mono ?_; rintro e w_ ⟨rfl, b⟩; replace B := Lib.hid (bon B.out b); clear b))
    go_wp2_with fail
    go_ret
    exact ⟨rfl, B.out⟩
  have A1 := Lib.hid (short_yes s apex ⟨#[]⟩ hz)
  have hzs : s.size ≤ 1000000 := by omega
  have hza : apex.size ≤ 300 := hz.2.1
  clear hz
  cases hn : nameB (bl s)
  · have A2 := Lib.hid (Check_no s hn)
    have A3 := Lib.hid (Under_is s apex false hzs (by unfold underB; rw [hn]; rfl))
    have A4 := Lib.hid (Match_is apex s false (match_noname hn))
    clear hn hzs hza
    have B := Lib.hid (Below.refl W.heap.size W)
    go_enter Try.func9, Try.ntmps9
    repeat (go_wp2_with fail; first
      | (with_reducible refine (A0.out _).mono ?_; rintro e w_ ⟨rfl, b⟩; replace B := Lib.hid (bon B.out b); clear b)
      | (with_reducible refine (A1.out _).mono ?_; rintro e w_ ⟨rfl, b⟩; replace B := Lib.hid (bon B.out b); clear b)
      | (with_reducible refine (A2.out _).mono ?_; rintro e w_ ⟨rfl, b⟩; replace B := Lib.hid (bon B.out b); clear b)
      | (with_reducible refine (A3.out _).mono ?_; rintro e w_ ⟨rfl, b⟩; replace B := Lib.hid (bon B.out b); clear b)
      | (with_reducible refine (A4.out _).mono ?_; rintro e w_ ⟨rfl, b⟩; replace B := Lib.hid (bon B.out b); clear b))
    go_wp2_with fail
    go_ret
    exact ⟨rfl, B.out⟩
  have A2 := Lib.hid (Check_yes s hn)
  have A3 := Lib.hid (Under_is s ⟨#[]⟩ true hzs (by rw [under_met hn]; rfl))
  have HM := Lib.hid (fun met (h : (decide (bl s = bl apex) || belowB (bl s) (bl apex)) = met) => Under_is s apex (decide (bl apex = []) || met) hzs (by rw [under_met hn, h]))
  have eS : bl ((⟨#[42, 46]⟩ : ByteArray) ++ apex) = 42 :: 46 :: bl apex := by rw [show bl ((⟨#[42, 46]⟩ : ByteArray) ++ apex) = bl ⟨#[42, 46]⟩ ++ bl apex by simp [bl]]; rfl
  have A5 := Lib.hid (Pattern_is ((⟨#[42, 46]⟩ : ByteArray) ++ apex) _ rfl)
  rw [eS] at A5
  have A6 := Lib.hid (fun h => Match_is ((⟨#[42, 46]⟩ : ByteArray) ++ apex) s (belowB (bl s) (bl apex)) (by rw [eS]; exact star_match hn h))
  have HU := Lib.hid (ust_0 (apex := bl apex) hn)
  have UP := Lib.hid (fun r => Up_any r)
  have q5 : s.toList.isEmpty = false := by rw [isEmpty_bl]; exact decide_eq_false (name_ne hn)
  have HX := Lib.hid (show bl apex = [] → (s.toList == apex.toList) = false from fun h => by rw [beq_bl, h]; exact decide_eq_false (name_ne hn))
  clear hn eS hzs
  have c4 : ¬ 9223372036854775807 < 2 + apex.size := by omega
  clear hza
  have B := Lib.hid (Below.refl W.heap.size W)
  go_enter Try.func9, Try.ntmps9
  repeat (go_wp2_with fail; first
    | (with_reducible refine (A0.out _).mono ?_; rintro e w_ ⟨rfl, b⟩; replace B := Lib.hid (bon B.out b); clear b)
    | (with_reducible refine (A1.out _).mono ?_; rintro e w_ ⟨rfl, b⟩; replace B := Lib.hid (bon B.out b); clear b)
    | (with_reducible refine (A2.out _).mono ?_; rintro e w_ ⟨rfl, b⟩; replace B := Lib.hid (bon B.out b); clear b))
  go_wp2_with fail
  go_loopw [5, 6, 7] (fun m a i wr => ∃ (k : Nat) (met : Bool) (r : ByteArray), m = .bool met ∧ a = .string r ∧ i = .int .i64 (k : Int) ∧ k ≤ 9 ∧ Below W.heap.size W wr ∧ Hid (UST (bl s) (bl apex) k (bl r) met)) (fun _ _ i _ => 9 - (intOf i).toNat)
  case atStart => exact ⟨0, false, s, rfl, rfl, rfl, by omega, B.out, HU⟩
  case round =>
    obtain ⟨k, met, r, rfl, rfl, rfl, hk, hb, HH⟩ := hrel
    have BR := Lib.hid hb
    clear hb A0 A1 A2 HU
    by_cases hgo : k < 9 ∧ bl r ≠ []
    · obtain ⟨hk9, h0⟩ := hgo
      have q1 : r.toList.isEmpty = false := by rw [isEmpty_bl]; exact decide_eq_false h0
      have q2 : ¬ r.toList = [] := by rw [tl]; exact h0
      have d9 : decide ((k : Int) < 9) = true := decide_eq_true (by omega)
      have HE := Lib.hid (ust_step HH.out h0)
      have HUP := Lib.hid (show upB (bl r) = behind (bl r) by unfold upB; rw [HH.out.1.resolve_right h0]; rfl)
      have HQ := Lib.hid (beq_bl r apex)
      clear h0
      rw [← HQ.out] at HE
      cases met
      · rw [Bool.false_or] at HE
        go_wp2_with fail
        refine (UP.out _ _).mono ?_; rintro e w2 ⟨⟨t, rfl, ht⟩, b⟩
        have HT := Lib.hid (ht.trans HUP.out)
        have BR2 := Lib.hid (bon BR.out b)
        clear b ht
        go_wp2_with fail
        go_roundw
        case rel => exact ⟨k + 1, _, t, rfl, rfl, by go_num, by omega, BR2.out, by rw [HT.out]; exact HE⟩
        case measure => simp [intOf]; omega
      · rw [Bool.true_or] at HE
        go_wp2_with fail
        refine (UP.out _ _).mono ?_; rintro e w2 ⟨⟨t, rfl, ht⟩, b⟩
        have HT := Lib.hid (ht.trans HUP.out)
        have BR2 := Lib.hid (bon BR.out b)
        clear b ht
        go_wp2_with fail
        go_roundw
        case rel => exact ⟨k + 1, _, t, rfl, rfl, by go_num, by omega, BR2.out, by rw [HT.out]; exact HE⟩
        case measure => simp [intOf]; omega
    · have hr0 : bl r = [] := by
        by_cases h9 : k = 9
        · subst h9; exact ust_nine HH.out
        · by_cases h0 : bl r = []
          · exact h0
          · exact absurd ⟨by omega, h0⟩ hgo
      have hme := ust_end HH.out hr0
      have A4 := Lib.hid (HM.out met hme)
      have q1 : r.toList.isEmpty = true := by rw [isEmpty_bl]; exact decide_eq_true hr0
      have q2 : r.toList = [] := by rw [tl]; exact hr0
      have HBM := Lib.hid (show belowB (bl s) (bl apex) = (met && !(s.toList == apex.toList)) by rw [below_met, hme, beq_bl])
      rw [HBM.out] at A6
      clear hgo hme hr0 UP HM
      have KEY : ∀ (bp : Bool), patB (42 :: 46 :: bl apex) = bp → True := fun _ _ => trivial
      cases hp : patB (42 :: 46 :: bl apex)
      all_goals (
        rw [hp] at A5
        first
        | (replace A6 := Lib.hid (A6.out hp))
        | clear A6
        clear hp)
      all_goals (
        by_cases hk9 : k < 9
        all_goals (
          first
          | (have d9 : decide ((k : Int) < 9) = true := decide_eq_true (by omega))
          | (have d9 : decide ((k : Int) < 9) = false := decide_eq_false (by omega))
          clear hk hk9))
      all_goals (
        by_cases ha : bl apex = []
        all_goals (
          first
          | (have q3 : apex.toList.isEmpty = true := by rw [isEmpty_bl]; exact decide_eq_true ha)
          | (have q3 : apex.toList.isEmpty = false := by rw [isEmpty_bl]; exact decide_eq_false ha)
          first
          | (have q4 : apex.toList = [] := by rw [tl]; exact ha)
          | (have q4 : ¬ apex.toList = [] := by rw [tl]; exact ha)
          first
          | rw [decide_eq_true ha] at A4
          | rw [decide_eq_false ha] at A4
          try (have HX2 := Lib.hid (HX.out ha))
          clear ha))
      all_goals (
        cases met
        all_goals (
          cases hq : (s.toList == apex.toList)
          all_goals try (exact absurd (show true = false from hq.symm.trans HX2.out) (fun h => Bool.noConfusion h))
          all_goals (
            try rw [hq] at A6
            have hq2 : (s.toList != apex.toList) = !(s.toList == apex.toList) := rfl
            rw [hq] at hq2)))
      all_goals (
        go_wp2_with fail
        refine (A3.out _).mono ?_; rintro e w2 ⟨rfl, b⟩
        replace BR := Lib.hid (bon BR.out b); clear b
        go_wp2_with fail
        refine (A4.out _).mono ?_; rintro e w3 ⟨rfl, b⟩
        replace BR := Lib.hid (bon BR.out b); clear b
        go_wp2_with fail
        refine (A5.out _).mono ?_; rintro e w4 ⟨rfl, b⟩
        replace BR := Lib.hid (bon BR.out b); clear b
        go_wp2_with fail
        try (refine (A6.out _).mono ?_; rintro e w5 ⟨rfl, b⟩; replace BR := Lib.hid (bon BR.out b); clear b; go_wp2_with fail)
        go_ret
        exact ⟨rfl, BR.out⟩)
end Go.Proofs.Ytcmkfomfmjgmpaa

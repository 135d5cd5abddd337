/- The document's answers of names: what is above, what is below, Under, Match, Within, Meets. -/
import Derived.Test.YtcmkfomfmjgmpaaNamesI
namespace Go.Proofs.Ytcmkfomfmjgmpaa
open Go.ChangeShapes Go.WideShapes Go.ChangeAt Go.RowKit Go.Shelf Gs
set_option linter.unusedVariables false

theorem behind_at {l : List UInt8} {k : Nat} (hk : k < l.length) (e : l[k] = 46) (hn : 46 ∉ l.take k) : behind l = l.drop (k + 1) := by
  have e2 : l = l.take k ++ 46 :: l.drop (k + 1) := by
    conv => lhs; rw [← List.take_append_drop k l, List.drop_eq_getElem_cons hk, e]
  conv => lhs; rw [e2]
  exact behind_app hn _

set_option maxHeartbeats 2000000 in
theorem Up11_any (s : ByteArray) (w : World) :
    Calls Try.prog 21 #[.string s] w fun e w' => (∃ t, e = .returned (.string t) ∧ bl t = upB (bl s)) ∧ Below w.heap.size w w' := by
  cases hn : nameB (bl s)
  · have Q := Lib.hid (Name11_is s _ hn)
    have HE := Lib.hid (show upB (bl s) = [] by unfold upB; rw [hn]; rfl)
    clear hn
    go_enter Try.func21, Try.ntmps21
    go_wp2_with fail
    refine (Q.out _).mono ?_; rintro e w1 ⟨rfl, b⟩
    go_wp2_with fail
    go_ret
    exact ⟨⟨_, rfl, by rw [HE.out]; rfl⟩, b⟩
  · have Q := Lib.hid (Name11_is s _ hn)
    have HE := Lib.hid (show upB (bl s) = behind (bl s) by unfold upB; rw [hn]; rfl)
    have hs64 : s.size ≤ 64 := by have := (name_len hn).2.1; rwa [bl_len] at this
    clear hn
    go_enter Try.func21, Try.ntmps21
    go_wp2_with fail
    refine (Q.out _).mono ?_; rintro e w1 ⟨rfl, b⟩
    have B := Lib.hid b
    clear b
    go_wp2_with fail
    go_loopw [3] (fun i wr => ∃ k : Nat, k ≤ s.size ∧ i = .int .i64 (k : Int) ∧ wr = w1 ∧ Hid (46 ∉ (bl s).take k)) (fun i _ => s.size - (intOf i).toNat)
    case atStart => exact ⟨0, Nat.zero_le _, rfl, rfl, Lib.hid (by simp)⟩
    case round =>
      obtain ⟨k, hk, rfl, rfl, HH⟩ := hrel
      by_cases hlt : k < s.size
      · have hw0 : IntKind.i64.wrap ((k : Int) + 1) = (k : Int) + 1 := IntWalk.i64_in _ (by omega)
        by_cases hc : (s[k]'hlt).toNat = 46
        · have hc' : (((s[k]'hlt).toNat : Int) == 46) = true := by simp; omega
          have c1 : (0 : Int) ≤ (k : Int) + 1 := by omega
          have c2 : (k : Int) + 1 ≤ (s.size : Int) := by omega
          have c3 : ((k : Int) + 1).toNat = k + 1 := by omega
          have HX := Lib.hid (show bl (s.extract (k + 1) s.size) = upB (bl s) by
            rw [bl_from, HE.out, behind_at (k := k) (by rw [bl_len]; exact hlt) (by rw [bl_get s k hlt]; exact UInt8.toNat_inj.1 hc) HH.out])
          clear hc
          go_wp2_with fail
          go_ret
          exact ⟨⟨_, rfl, HX.out⟩, B.out⟩
        · have hc' : (((s[k]'hlt).toNat : Int) == 46) = false := by simp; omega
          have HX := Lib.hid (show 46 ∉ (bl s).take (k + 1) by
            rw [List.take_succ_eq_append_getElem (by rw [bl_len]; exact hlt), List.mem_append, not_or, List.mem_singleton]
            refine ⟨HH.out, fun e => hc ?_⟩
            rw [bl_get s k hlt] at e
            rw [← e]; rfl)
          clear hc
          go_wp2_with fail
          go_roundw
          case rel => exact ⟨k + 1, by omega, by go_num, trivial, HX⟩
          case measure => simp [intOf]; omega
      · obtain rfl : k = s.size := by omega
        have HX := Lib.hid (show behind (bl s) = [] from behind_one (by have := HH.out; rwa [List.take_of_length_le (by rw [bl_len]; exact Nat.le_refl _)] at this))
        go_wp2_with fail
        go_ret
        exact ⟨⟨_, rfl, by rw [HE.out, HX.out]; rfl⟩, B.out⟩

theorem isEmpty_bl (s : ByteArray) : s.toList.isEmpty = decide (bl s = []) := by
  rw [tl]; cases bl s <;> simp
theorem bl_empty : bl ⟨#[]⟩ = [] := rfl
set_option maxHeartbeats 2000000 in
theorem below11_any (s o : ByteArray) (hn : nameB (bl s) = true) (w : World) :
    Calls Try.prog 40 #[.string s, .string o] w fun e w' => e = .returned (.bool (belowB (bl s) (bl o))) ∧ Below w.heap.size w w' := by
  have HN0 := Lib.hid hn
  clear hn
  go_enter Try.func40, Try.ntmps40
  go_wp2_with fail
  go_loopw [0] (fun i wr => ∃ r : ByteArray, i = .string r ∧ Below w.heap.size w wr ∧ Hid (belowB (bl s) (bl o) = belowB (bl r) (bl o) ∧ (nameB (bl r) = true ∨ bl r = []))) (fun i _ => strLen i)
  case atStart => exact ⟨s, rfl, Below.refl _ _, Lib.hid ⟨rfl, .inl HN0.out⟩⟩
  case round =>
    obtain ⟨r, rfl, hb, HH⟩ := hrel
    have HB := Lib.hid hb
    clear hb
    by_cases h0 : bl r = []
    · have d0 : r.toList.isEmpty = true := by rw [isEmpty_bl]; exact decide_eq_true h0
      have d1 : r.toList = [] := by rw [tl]; exact h0
      have HE := Lib.hid (show belowB (bl s) (bl o) = false by rw [HH.out.1, h0]; rfl)
      clear h0
      go_wp2_with fail
      go_ret
      exact ⟨by rw [HE.out]; rfl, HB.out⟩
    · have hnr : nameB (bl r) = true := HH.out.2.resolve_right h0
      have d0 : r.toList.isEmpty = false := by rw [isEmpty_bl]; exact decide_eq_false h0
      have d1 : ¬ r.toList = [] := by rw [tl]; exact h0
      have U := Lib.hid (Up11_any r)
      have HU := Lib.hid (show upB (bl r) = behind (bl r) by unfold upB; rw [hnr]; rfl)
      have HR := Lib.hid (And.intro hnr h0)
      clear h0 hnr
      go_wp2_with fail
      refine (U.out _).mono ?_; rintro e w2 ⟨⟨t, rfl, ht⟩, b⟩
      have HB2 := Lib.hid (bon HB.out b)
      have HT := Lib.hid (ht.trans HU.out)
      clear b ht d0 d1
      have HL := Lib.hid (show (bl t).length < (bl r).length by
        rw [HT.out]
        rcases text_cases (bl r) with h | ⟨c, q, h, hc⟩
        · rw [behind_one h]; exact List.length_pos_iff.2 HR.out.2
        · rw [h, behind_app hc]; simp; omega)
      by_cases e0 : bl t = bl o
      · have q0 : (t.toList == o.toList) = true := by rw [beq_bl]; exact decide_eq_true e0
        by_cases t0 : bl t = []
        · have q1 : t.toList.isEmpty = true := by rw [isEmpty_bl]; exact decide_eq_true t0
          have q2 : t.toList = [] := by rw [tl]; exact t0
          have HE := Lib.hid (show belowB (bl s) (bl o) = belowB (bl t) (bl o) ∧ (nameB (bl t) = true ∨ bl t = []) by
            refine ⟨?_, .inr t0⟩
            rw [HH.out.1, ← e0, t0]
            refine (decide_eq_false fun hm => ?_).trans (by rfl)
            exact (suf_name HR.out.1 hm).2 rfl)
          clear e0 t0
          go_wp2_with fail
          all_goals exact ⟨⟨t, rfl, HB2.out, HE⟩, HL.out⟩
        · have q1 : t.toList.isEmpty = false := by rw [isEmpty_bl]; exact decide_eq_false t0
          have q2 : ¬ t.toList = [] := by rw [tl]; exact t0
          have HE := Lib.hid (show belowB (bl s) (bl o) = true by
            rw [HH.out.1, ← e0]
            refine decide_eq_true ?_
            have ht := HT.out
            rcases text_cases (bl r) with h | ⟨c, q, h, hc⟩
            · rw [behind_one h] at ht; exact absurd ht t0
            · rw [h, behind_app hc] at ht
              rw [ht, h, sufs_app hc]; exact List.mem_cons_self ..)
          clear e0 t0
          go_wp2_with fail
          go_ret
          exact ⟨by rw [HE.out]; rfl, HB2.out⟩
      · have q0 : (t.toList == o.toList) = false := by rw [beq_bl]; exact decide_eq_false e0
        have HE := Lib.hid (show belowB (bl s) (bl o) = belowB (bl t) (bl o) ∧ (nameB (bl t) = true ∨ bl t = []) by
          have ht := HT.out
          rw [HH.out.1]
          rcases text_cases (bl r) with h | ⟨c, q, h, hc⟩
          · rw [behind_one h] at ht
            refine ⟨?_, .inr ht⟩
            unfold belowB
            rw [ht, sufs_one h]; rfl
          · have ht' := ht
            rw [h, behind_app hc] at ht'
            refine ⟨?_, .inl ?_⟩
            · unfold belowB
              rw [h, sufs_app hc, ht', decide_eq_decide, List.mem_cons]
              refine ⟨fun hm => hm.resolve_left (fun e => e0 (ht'.trans e.symm)), .inr⟩
            · rw [ht']
              exact (suf_name HR.out.1 (by rw [h, sufs_app hc]; exact List.mem_cons_self ..)).1)
        clear e0
        go_wp2_with fail
        go_roundw
        case rel => exact ⟨t, rfl, HB2.out, HE⟩
        case measure => exact HL.out
end Go.Proofs.Ytcmkfomfmjgmpaa

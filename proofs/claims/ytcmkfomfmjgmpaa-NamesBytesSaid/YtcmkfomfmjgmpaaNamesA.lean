/- Contracts of the bytes of names: words, labels; a text's beginning. -/
import Derived.Test.YtcmkfomfmjgmpaaNamesMath
import Derived.Test.YtcmkfomfmjgmpaaFieldLib
import Derived.Deep.RegionHeldLaw
import Derived.Laws.RangeAny
import Derived.Laws.RangeString
import Derived.Lib.Strings
namespace Go.Proofs.Ytcmkfomfmjgmpaa
open Go.ChangeShapes Go.WideShapes Go.ChangeAt Go.RowKit Gs
set_option linter.unusedVariables false

/-- A text's bytes. -/
def bl (s : ByteArray) : List UInt8 := s.data.toList
theorem bl_at (s : ByteArray) (i : Nat) (h : i < s.size) : ((bl s)[i]?.getD 0) = s[i]'h := by
  unfold bl
  have h' : i < s.data.toList.length := by simpa using h
  rw [List.getElem?_eq_getElem h']
  simp
  rfl
theorem bl_get (s : ByteArray) (i : Nat) (h : i < s.size) (h' : i < (bl s).length) : (bl s)[i]'h' = s[i]'h := by simp [bl]; rfl
theorem bl_len (s : ByteArray) : (bl s).length = s.size := by simp [bl]
theorem ret_b {a b : Bool} (h : a = b) : Ending.returned (.bool a) = .returned (.bool b) := by rw [h]

theorem word_any (n : Nat) (w : World) :
    Calls Try.prog 47 #[.int .u8 (n : Int)] w fun e w' => e = .returned (.bool (wordB n)) ∧ w = w' := by
  go_enter Try.func47, Try.ntmps47
  go_wp2
  all_goals (go_ret; refine ⟨ret_b ?_, rfl⟩; unfold wordB; rw [Bool.eq_iff_iff]; simp <;> omega)

theorem refLabel_any (s : ByteArray) (w : World) :
    Calls Try.prog 42 #[.string s] w fun e w' => e = .returned (.bool (labB (bl s))) ∧ w = w' := by
  by_cases hs : 1 ≤ s.size ∧ s.size ≤ 16
  rotate_left 1
  · have he : labB (bl s) = false := by unfold labB; rw [decide_eq_false (by rw [bl_len]; exact hs), Bool.and_false]
    rw [he]
    by_cases h1 : s.size < 1
    · have d1 : decide ((s.size : Int) < 1) = true := decide_eq_true (by omega)
      go_enter Try.func42, Try.ntmps42
      go_wp2_with fail
      go_ret
      exact ⟨rfl, rfl⟩
    · have d1 : decide ((s.size : Int) < 1) = false := decide_eq_false (by omega)
      have d2 : decide (16 < (s.size : Int)) = true := decide_eq_true (by omega)
      go_enter Try.func42, Try.ntmps42
      go_wp2_with fail
      go_ret
      exact ⟨rfl, rfl⟩
  · have d1 : decide ((s.size : Int) < 1) = false := decide_eq_false (by omega)
    have d2 : decide (16 < (s.size : Int)) = false := decide_eq_false (by omega)
    rw [labB_ref (by rw [bl_len]; exact hs), bl_len, bl_at s (s.size - 1) (by omega), bl_at s 0 (by omega)]
    cases hl : wordB (s[s.size - 1]'(by omega)).toNat
    · go_enter Try.func42, Try.ntmps42
      go_wp2_with (go_at_call 47; refine (word_any _ _).mono ?_; rintro e w' ⟨rfl, rfl⟩)
      go_ret
      exact ⟨rfl, rfl⟩
    · cases hf : wordB (s[0]'(by omega)).toNat || decide ((s[0]'(by omega)).toNat = 95)
      · rw [Bool.or_eq_false_iff] at hf
        have hf1 := hf.1
        have hf2 : (((s[0]'(by omega)).toNat : Int) != 95) = true := by have := of_decide_eq_false hf.2; simp; omega
        clear hf
        go_enter Try.func42, Try.ntmps42
        go_wp2_with (go_at_call 47; refine (word_any _ _).mono ?_; rintro e w' ⟨rfl, rfl⟩)
        go_ret
        exact ⟨rfl, rfl⟩
      · rw [Bool.true_and, Bool.true_and]
        have HF : (wordB (s[0]'(by omega)).toNat = true) ∨ (wordB (s[0]'(by omega)).toNat = false ∧ (((s[0]'(by omega)).toNat : Int) != 95) = false) := by
          cases h : wordB (s[0]'(by omega)).toNat
          · right; rw [h, Bool.false_or] at hf; have := of_decide_eq_true hf; exact ⟨rfl, by simp; omega⟩
          · left; rfl
        clear hf
        rcases HF with hf | ⟨hf, hf2⟩
        all_goals (
          go_enter Try.func42, Try.ntmps42
          go_wp2_with (go_at_call 47; refine (word_any _ _).mono ?_; rintro e w' ⟨rfl, rfl⟩)
          go_loop [4] (fun i => ∃ k : Nat, 1 ≤ k ∧ k ≤ s.size ∧ i = .int .i64 (k : Int) ∧ Hid (midB (bl s) k = true)) (fun i => s.size - (intOf i).toNat)
          case atStart => exact ⟨1, by omega, by omega, rfl, Lib.hid (by rw [midB_succ]; rfl)⟩
          case round =>
            obtain ⟨k, hk1, hk, rfl, HM⟩ := hrel
            by_cases hlt : k < s.size
            · have HN := midB_succ (bl s) k
              have HX := fun h1 h2 => midB_false (l := bl s) (i := k) (n := s.size) (by omega) h1 h2 hlt
              rw [bl_at s k hlt] at HN HX
              rw [HM.out, Bool.true_and, decide_eq_false (show ¬ k = 0 by omega), Bool.false_or] at HN
              have HN' := Lib.hid HN
              have HX' := Lib.hid HX
              clear HN HX
              cases hw : wordB (s[k]'hlt).toNat
              · by_cases h45 : (s[k]'hlt).toNat = 45
                · have h46 : (((s[k]'hlt).toNat : Int) != 45) = false := by simp; omega
                  have HE := Lib.hid (show midB (bl s) (k + 1) = true by rw [HN'.out, hw, h45]; rfl)
                  clear h45
                  go_wp2_with (go_at_call 47; refine (word_any _ _).mono ?_; rintro e w' ⟨rfl, rfl⟩)
                  exact ⟨⟨k + 1, by omega, by omega, by simp, HE⟩, by simp [intOf]; omega⟩
                · have h46 : (((s[k]'hlt).toNat : Int) != 45) = true := by simp; omega
                  have HE := Lib.hid (HX'.out hw h45)
                  clear h45
                  go_wp2_with (go_at_call 47; refine (word_any _ _).mono ?_; rintro e w' ⟨rfl, rfl⟩)
                  go_ret
                  exact ⟨by rw [HE.out]; rfl, rfl⟩
              · have HE := Lib.hid (show midB (bl s) (k + 1) = true by rw [HN'.out, hw]; rfl)
                go_wp2_with (go_at_call 47; refine (word_any _ _).mono ?_; rintro e w' ⟨rfl, rfl⟩)
                exact ⟨⟨k + 1, by omega, by omega, by simp, HE⟩, by simp [intOf]; omega⟩
            · have hks : k = s.size := by omega
              have HE := Lib.hid (show midB (bl s) s.size = true by rw [← hks]; exact HM.out)
              go_wp2_with fail
              go_ret
              exact ⟨by rw [HE.out]; rfl, rfl⟩)
/-- What is decoded at a place: one byte as it is, or a number past all letters. -/
theorem decode_two (s : ByteArray) (pos : Nat) (h : pos < s.size) : ∃ R wd, Utf8.decode s pos = (R, wd) ∧ R ≤ 2147483647 ∧ 1 ≤ wd ∧ ((R = (s[pos]'h).toNat ∧ wd = 1) ∨ (128 ≤ R ∧ 128 ≤ (s[pos]'h).toNat)) := by
  by_cases ha : (s[pos]'h).toNat < 128
  · exact ⟨_, _, decode_ascii s pos h ha, by omega, Nat.le_refl _, .inl ⟨rfl, rfl⟩⟩
  · have h2 := decode_high s pos h (by omega)
    exact ⟨_, _, rfl, decode_le s pos, h2.2, .inr ⟨h2.1, by omega⟩⟩
theorem okAt_s (s : ByteArray) (pos : Nat) (h : pos < s.size) : okAt (bl s) pos = (wordB (s[pos]'h).toNat || (decide ((s[pos]'h).toNat = 45) && decide (pos ≠ 0) && decide (pos + 1 ≠ s.size)) || (decide ((s[pos]'h).toNat = 95) && decide (pos = 0) && decide (pos + 1 ≠ s.size))) := by
  unfold okAt
  rw [bl_at s pos h, bl_len]

set_option maxRecDepth 100000 in
theorem isLabel_any (s : ByteArray) (hs : s.size ≤ 9223372036854775807) (w : World) :
    Calls Try.prog 41 #[.string s] w fun e w' => e = .returned (.bool (labB (bl s))) ∧ Below w.heap.size w w' := by
  go_enter Try.func41, Try.ntmps41
  go_wp2
  go_loopw [3] (fun _ w' => ∃ pos : Nat, w' = w.iter s pos ∧ pos ≤ s.size ∧ Hid (okTo (bl s) pos = true)) (fun _ w' => s.size - w'.iterPos w.heap.size)
  case atStart => exact ⟨0, rfl, by omega, Lib.hid rfl⟩
  case round =>
    obtain ⟨pos, rfl, hp, HO⟩ := hrel
    by_cases hlt : pos < s.size
    · obtain ⟨R, wd, hd, hR, hwd, hcase⟩ := decode_two s pos hlt
      have hnx : ∀ ty, (Instr.next (.pointer (some ⟨w.heap.size, 0, none⟩)) true ty).run Try.prog (w.iter s pos) = .ok (.tuple #[.bool true, .int .i64 pos, .int .i32 R]) (w.iter s (pos + wd)) := fun ty => by rw [run_next_any w s pos ty hlt, hd]
      have HK := Lib.hid (okAt_s s pos hlt)
      have HC := Lib.hid hcase
      clear hcase
      have hw1 : wrap64 ((s.size : Int) - 1) = (s.size : Int) - 1 := by unfold wrap64; omega
      generalize (s[pos]'hlt).toNat = c at *
      go_wp2_with fail
      all_goals first
        | (go_ret
           refine ⟨ret_b ?_, (Below.refl _ _).alloc (Nat.le_refl _) _⟩
           have hk : okAt (bl s) pos = false := by
             rw [HK.out, Bool.eq_false_iff]
             intro hcon
             rcases HC.out with ⟨h1, h2⟩ | ⟨h1, h2⟩ <;> clear HK HC HO hnx hd <;> simp [wordB] at * <;> omega
           unfold labB
           rw [okTo_false hk (by rw [bl_len]; exact hlt)]
           rfl)
        | (have h12 : c = R ∧ wd = 1 := by
             rcases HC.out with ⟨h1, h2⟩ | ⟨h1, h2⟩
             · exact ⟨h1.symm, h2⟩
             · exfalso; clear HK HC HO hnx hd; simp at *; omega
           have hk : okAt (bl s) pos = true := by
             rw [HK.out]
             obtain ⟨rfl, rfl⟩ := h12
             clear HK HC HO hnx hd; simp [wordB] at *; omega
           obtain ⟨-, rfl⟩ := h12
           first
             | exact ⟨⟨pos + 1, rfl, by omega, Lib.hid (by rw [okTo_succ, HO.out, hk]; rfl)⟩, by simp; omega⟩
             | (have h0 : pos = 0 := by clear HK HC HO hnx hd; simp at *; omega
                have HT : okTo (bl s) (pos + 1) = true := by rw [okTo_succ, HO.out, hk]; rfl
                rw [h0] at HT
                exact ⟨⟨1, rfl, by omega, Lib.hid HT⟩, by simp; omega⟩))
    · have hnx : ∀ ty, (Instr.next (.pointer (some ⟨w.heap.size, 0, none⟩)) true ty).run Try.prog (w.iter s pos) = _ := fun ty => run_next_end w s pos ty hlt
      have hps : pos = s.size := by omega
      have HE : labB (bl s) = decide (1 ≤ s.size ∧ s.size ≤ 16) := by unfold labB; rw [bl_len, ← hps, HO.out, Bool.true_and]
      have HE' := Lib.hid HE
      clear HE hps
      go_wp2_with fail
      all_goals (go_ret; refine ⟨ret_b ?_, (Below.refl _ _).alloc (Nat.le_refl _) _⟩; rw [HE'.out, Bool.eq_iff_iff]; simp <;> omega)

theorem beq_bl (s t : ByteArray) : (s.toList == t.toList) = decide (bl s = bl t) := by
  unfold bl; rw [Lib.toList_data, Lib.toList_data, Bool.eq_iff_iff]; simp
theorem bl_inj {s t : ByteArray} (h : bl s = bl t) : s = t := by
  rw [← Lib.mk_data s, ← Lib.mk_data t]
  unfold bl at h
  rw [h]
theorem bl_ext (s : ByteArray) (a b : Nat) : bl (s.extract a b) = ((bl s).drop a).take (b - a) := Lib.extract_data s a b
theorem bl_from (s : ByteArray) (a : Nat) : bl (s.extract a s.size) = (bl s).drop a := by
  rw [bl_ext, List.take_of_length_le]
  rw [List.length_drop, bl_len]
  exact Nat.le_refl _
theorem bl_upto (s : ByteArray) (b : Nat) : bl (s.extract 0 b) = (bl s).take b := by rw [bl_ext]; simp
theorem bl_mk (l : List UInt8) : bl ⟨l.toArray⟩ = l := by simp [bl]

theorem starOf_yes (s : ByteArray) (o : List UInt8) (h : stB (bl s) = some o) (w : World) :
    Calls Try.prog 33 #[.string s] w fun e w' => (∃ t, e = .returned (.tuple #[.string t, .bool true]) ∧ bl t = o) ∧ w = w' := by
  have h2 := stB_some h
  have hl : s.size = o.length + 2 := by rw [← bl_len, h2]; rfl
  have c1 : decide (2 ≤ (s.size : Int)) = true := decide_eq_true (by omega)
  have c2 : ((s.extract 0 2).toList == [42, 46]) = true := by rw [Lib.toList_data, show (s.extract 0 2).data.toList = _ from bl_upto s 2, h2]; rfl
  have HE := Lib.hid (show bl (s.extract 2 s.size) = o by rw [bl_from, h2]; rfl)
  have hsz : 2 ≤ s.size := by omega
  clear h h2 hl
  go_enter Try.func33, Try.ntmps33
  go_wp2
  go_ret2
  exact ⟨⟨_, rfl, HE.out⟩, rfl⟩
theorem starOf_no (s : ByteArray) (h : stB (bl s) = none) (w : World) :
    Calls Try.prog 33 #[.string s] w fun e w' => e = .returned (.tuple #[.string s, .bool false]) ∧ w = w' := by
  by_cases hsz : 2 ≤ s.size
  · have c1 : decide (2 ≤ (s.size : Int)) = true := decide_eq_true (by omega)
    have c2 : ((s.extract 0 2).toList == [42, 46]) = false := by
      rw [Lib.toList_data, show (s.extract 0 2).data.toList = _ from bl_upto s 2, beq_eq_false_iff_ne]
      intro e
      have : ∀ l : List UInt8, l.take 2 = [42, 46] → stB l ≠ none := by
        intro l hl
        match l, hl with
        | a :: b :: r, hl => simp at hl; simp [stB, hl]
      exact this _ e h
    clear h
    go_enter Try.func33, Try.ntmps33
    go_wp2
    go_ret2
    exact ⟨rfl, rfl⟩
  · have c1 : decide (2 ≤ (s.size : Int)) = false := decide_eq_false (by omega)
    clear h
    go_enter Try.func33, Try.ntmps33
    go_wp2
    go_ret2
    exact ⟨rfl, rfl⟩

/-- The last dot's place, or -1. -/
def IsLast (l : List UInt8) (i : Int) : Prop := (i = -1 ∧ 46 ∉ l) ∨ ∃ a b, l = a ++ 46 :: b ∧ 46 ∉ b ∧ i = (a.length : Int)
theorem isLast_hit (s : ByteArray) (k : Nat) (hk : k < s.size) (h : (s[k]'hk).toNat = 46) (hn : ∀ j, k < j → (hj : j < s.size) → (s[j]'hj).toNat ≠ 46) : IsLast (bl s) (k : Int) := by
  right
  have hk' : k < (bl s).length := by rw [bl_len]; exact hk
  refine ⟨(bl s).take k, (bl s).drop (k + 1), ?_, ?_, by rw [List.length_take]; omega⟩
  · have e : (bl s)[k] = 46 := by
      rw [bl_get s k hk hk']
      exact UInt8.toNat_inj.1 h
    rw [← e, List.getElem_cons_drop, List.take_append_drop]
  · intro hm
    obtain ⟨j, hj, e⟩ := List.getElem_of_mem hm
    rw [List.getElem_drop] at e
    rw [List.length_drop, bl_len] at hj
    rw [bl_get s (k + 1 + j) (by omega)] at e
    exact hn (k + 1 + j) (by omega) (by omega) (by rw [e]; rfl)
theorem isLast_miss (s : ByteArray) (hn : ∀ j, (hj : j < s.size) → (s[j]'hj).toNat ≠ 46) : IsLast (bl s) (-1) := by
  left
  refine ⟨rfl, fun hm => ?_⟩
  obtain ⟨j, hj, e⟩ := List.getElem_of_mem hm
  rw [bl_len] at hj
  rw [bl_get s j hj] at e
  exact hn j hj (by rw [e]; rfl)

theorem lastByte_any (s : ByteArray) (hs : s.size ≤ 9223372036854775807) (w : World) :
    Calls Try.prog 49 #[.string s, .int .u8 46] w fun e w' => (∃ i, e = .returned (.int .i64 i) ∧ IsLast (bl s) i) ∧ w = w' := by
  have hw : wrap64 ((s.size : Int) - 1) = (s.size : Int) - 1 := by unfold wrap64; omega
  go_enter Try.func49, Try.ntmps49
  go_wp2
  go_loop [5] (fun vi => ∃ k : Nat, k ≤ s.size ∧ vi = .int .i64 ((k : Int) - 1) ∧ Hid (∀ j, k ≤ j → (hj : j < s.size) → (s[j]'hj).toNat ≠ 46)) (fun vi => ((intOf vi) + 1).toNat)
  case atStart => exact ⟨s.size, Nat.le_refl _, by first | rfl | go_num | (congr 1; omega), Lib.hid (fun j h1 h2 => by omega)⟩
  case round =>
    obtain ⟨k, hk, rfl, hh⟩ := hrel
    clear hw
    by_cases k1 : 1 ≤ k
    · by_cases hc : (s[k - 1]'(by omega)).toNat = 46
      · have hc' : (((s[k - 1]'(by omega)).toNat : Int) == 46) = true := by simp; omega
        have HE := Lib.hid (isLast_hit s (k - 1) (by omega) hc (fun j h1 h2 => hh.out j (by omega) h2))
        clear hc
        go_wp2
        go_ret
        refine ⟨⟨_, rfl, ?_⟩, rfl⟩
        have e := HE.out
        rwa [show ((k - 1 : Nat) : Int) = (k : Int) - 1 by omega] at e
      · have hc' : (((s[k - 1]'(by omega)).toNat : Int) == 46) = false := by simp; omega
        have HE := Lib.hid (show ∀ j, k - 1 ≤ j → (hj : j < s.size) → (s[j]'hj).toNat ≠ 46 from fun j h1 h2 => by
          by_cases e : j = k - 1
          · subst e; exact hc
          · exact hh.out j (by omega) h2)
        clear hc
        go_wp2
        exact ⟨⟨k - 1, by omega, by congr 1; omega, HE⟩, by simp [intOf]; omega⟩
    · have k0 : k = 0 := by omega
      subst k0
      have HE := Lib.hid (isLast_miss s (fun j h2 => hh.out j (by omega) h2))
      go_wp2
      go_ret
      exact ⟨⟨_, rfl, HE.out⟩, rfl⟩
theorem lastDot_any (s : ByteArray) (hs : s.size ≤ 9223372036854775807) (w : World) :
    Calls Try.prog 45 #[.string s, .string ⟨#[46]⟩] w fun e w' => (∃ i, e = .returned (.int .i64 i) ∧ IsLast (bl s) i) ∧ w = w' := by
  go_enter Try.func45, Try.ntmps45
  go_wp2_with (go_at_call 49; refine (lastByte_any _ hs _).mono ?_; rintro e w' ⟨⟨i, rfl, hi⟩, rfl⟩)
  go_ret
  exact ⟨⟨_, rfl, hi⟩, rfl⟩
end Go.Proofs.Ytcmkfomfmjgmpaa

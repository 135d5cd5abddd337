/- The walk of NamesLabel. -/
import Derived.Test.YtcmkfomfmjgmpaaNamesM
namespace Go.Proofs.Ytcmkfomfmjgmpaa
open Go.ChangeShapes Go.WideShapes Go.ChangeAt Go.RowKit Go.Shelf Gs
set_option linter.unusedVariables false

theorem name_label {l : List UInt8} (h : 46 ∉ l) : nameB l = labB l := by
  unfold nameB nameN
  rw [cuts_one h]
  cases hl : labB l
  · simp [hl]
  · unfold labB at hl
    rw [Bool.and_eq_true, decide_eq_true_eq] at hl
    rw [decide_eq_true (show l.length ≤ 64 by omega)]
    simp [labB, hl.1, hl.2]
theorem name_more {l s : List UInt8} (h : 46 ∉ l) (hs : nameB s = true) : nameB (l ++ 46 :: s) = (nameB l && (decide ((l ++ 46 :: s).length ≤ 64) && decide ((cuts s).length < 8))) := by
  rw [name_label h]
  unfold nameB nameN at hs ⊢
  rw [Bool.and_eq_true, Bool.and_eq_true] at hs
  rw [cuts_app h, List.all_cons, hs.2.2, Bool.and_true, List.length_cons]
  rw [show decide ((cuts s).length + 1 ≤ 8) = decide ((cuts s).length < 8) by rw [decide_eq_decide]; omega]
  cases labB l <;> simp [Bool.and_comm]

set_option maxRecDepth 100000 in
set_option maxHeartbeats 8000000 in
theorem label_walk11 (label s : ByteArray) (W : World) : Calls Try.prog 10 #[.string label, .string s] W fun e w' => e = .returned (.bool true) ∧ Below W.heap.size W w' := by
  have A0 := Lib.hid live11
  by_cases hz : label.size ≤ 300 ∧ s.size ≤ 300 ∧ (⟨#[]⟩ : ByteArray).size ≤ 300
  rotate_left 1
  · have A1 := Lib.hid (short_no label s ⟨#[]⟩ hz)
    clear hz
    have B := Lib.hid (Below.refl W.heap.size W)
    go_enter Try.func10, Try.ntmps10
    repeat (go_wp2_with fail; first
      | (with_reducible refine (A0.out _).mono ?_; rintro e w_ ⟨rfl, b⟩; replace B := Lib.hid (bon B.out b); clear b)
      | (with_reducible refine (A1.out _).mono ?_; rintro e w_ ⟨rfl, b⟩; replace B := Lib.hid (bon B.out b); clear b))
    go_wp2_with fail
    go_ret
    exact ⟨rfl, B.out⟩
  have A1 := Lib.hid (short_yes label s ⟨#[]⟩ hz)
  have hzl : label.size ≤ 300 := hz.1
  have hzs : s.size ≤ 300 := hz.2.1
  clear hz
  cases hn : nameB (bl s)
  · have A2 := Lib.hid (Check_no s hn)
    clear hn hzs hzl
    have B := Lib.hid (Below.refl W.heap.size W)
    go_enter Try.func10, Try.ntmps10
    repeat (go_wp2_with fail; first
      | (with_reducible refine (A0.out _).mono ?_; rintro e w_ ⟨rfl, b⟩; replace B := Lib.hid (bon B.out b); clear b)
      | (with_reducible refine (A1.out _).mono ?_; rintro e w_ ⟨rfl, b⟩; replace B := Lib.hid (bon B.out b); clear b)
      | (with_reducible refine (A2.out _).mono ?_; rintro e w_ ⟨rfl, b⟩; replace B := Lib.hid (bon B.out b); clear b))
    go_wp2_with fail
    go_ret
    exact ⟨rfl, B.out⟩
  have A2 := Lib.hid (Check_yes s hn)
  have A4 := Lib.hid (Labels_go s hn)
  have HN := Lib.hid hn
  clear hn
  have B := Lib.hid (Below.refl W.heap.size W)
  go_enter Try.func10, Try.ntmps10
  repeat (go_wp2_with fail; first
    | (with_reducible refine (A0.out _).mono ?_; rintro e w_ ⟨rfl, b⟩; replace B := Lib.hid (bon B.out b); clear b)
    | (with_reducible refine (A1.out _).mono ?_; rintro e w_ ⟨rfl, b⟩; replace B := Lib.hid (bon B.out b); clear b)
    | (with_reducible refine (A2.out _).mono ?_; rintro e w_ ⟨rfl, b⟩; replace B := Lib.hid (bon B.out b); clear b))
  go_wp2_with fail
  go_loopw [5] (fun i wr => ∃ k : Nat, k ≤ label.size ∧ i = .int .i64 (k : Int) ∧ wr = w_ ∧ Hid (46 ∉ (bl label).take k)) (fun i _ => label.size - (intOf i).toNat)
  case atStart => exact ⟨0, Nat.zero_le _, rfl, rfl, Lib.hid (by simp)⟩
  case round =>
    obtain ⟨k, hk, rfl, rfl, HH⟩ := hrel
    clear A0 A1 A2
    by_cases hlt : k < label.size
    · by_cases hc : (label[k]'hlt).toNat = 46
      · have hc' : (((label[k]'hlt).toNat : Int) == 46) = true := by simp; omega
        clear hc
        go_wp2_with fail
        go_ret
        exact ⟨rfl, B.out⟩
      · have hc' : (((label[k]'hlt).toNat : Int) == 46) = false := by simp; omega
        have HX := Lib.hid (show 46 ∉ (bl label).take (k + 1) by
          rw [List.take_succ_eq_append_getElem (by rw [bl_len]; exact hlt), List.mem_append, not_or, List.mem_singleton]
          refine ⟨HH.out, fun e => hc ?_⟩
          rw [bl_get label k hlt] at e
          rw [← e]; rfl)
        clear hc
        go_wp2_with fail
        go_roundw
        case rel => exact ⟨k + 1, by omega, by go_num, trivial, HX⟩
        case measure => simp [intOf]; omega
    · obtain rfl : k = label.size := by omega
      have h46 : 46 ∉ bl label := by have := HH.out; rwa [List.take_of_length_le (by rw [bl_len]; exact Nat.le_refl _)] at this
      have eM : bl ((label ++ (⟨#[46]⟩ : ByteArray)) ++ s) = bl label ++ 46 :: bl s := by
        rw [show bl ((label ++ (⟨#[46]⟩ : ByteArray)) ++ s) = (bl label ++ bl ⟨#[46]⟩) ++ bl s by simp [bl]]
        rw [List.append_assoc]; rfl
      have hMsz : ((label ++ (⟨#[46]⟩ : ByteArray)) ++ s).size = label.size + 1 + s.size := by
        rw [← bl_len, eM, List.length_append, List.length_cons, bl_len, bl_len]; omega
      have HNM := Lib.hid (name_more h46 HN.out)
      have HLE := Lib.hid (show (bl label ++ 46 :: bl s).length = label.size + 1 + s.size by rw [List.length_append, List.length_cons, bl_len, bl_len]; omega)
      have HCUT := Lib.hid (cuts_app h46 (bl s))
      have HSUF := Lib.hid (sufs_app h46 (bl s))
      have HBH := Lib.hid (behind_app h46 (bl s))
      have c4 : ¬ 9223372036854775807 < label.size + 1 := by omega
      have c5 : ¬ 9223372036854775807 < label.size + 1 + s.size := by omega
      have HEM := Lib.hid eM
      have hc8 := (name_len HN.out).2.2
      clear h46 eM hlt hk HH
      cases h1 : nameB (bl label)
      · have A5 := Lib.hid (Check_no label h1)
        have hm : nameB (bl ((label ++ (⟨#[46]⟩ : ByteArray)) ++ s)) = false := by rw [HEM.out, HNM.out, h1]; rfl
        have A6 := Lib.hid (Check_no _ hm)
        have A7 := Lib.hid (Up_is ((label ++ (⟨#[46]⟩ : ByteArray)) ++ s) ⟨#[]⟩ (by unfold upB; rw [hm]; rfl))
        have A8 := Lib.hid (Labels_no _ hm)
        clear h1 hm hc8 hMsz
        repeat (go_wp2_with fail; first
          | (with_reducible refine (A5.out _).mono ?_; rintro e w_ ⟨rfl, b⟩; replace B := Lib.hid (bon B.out b); clear b)
          | (with_reducible refine (A6.out _).mono ?_; rintro e w_ ⟨rfl, b⟩; replace B := Lib.hid (bon B.out b); clear b)
          | (with_reducible refine (A7.out _).mono ?_; rintro e w_ ⟨rfl, b⟩; replace B := Lib.hid (bon B.out b); clear b)
          | (with_reducible refine (A8.out _).mono ?_; rintro e w_ ⟨rfl, b⟩; replace B := Lib.hid (bon B.out b); clear b))
        go_wp2_with fail
        go_ret
        exact ⟨rfl, B.out⟩
      have A5 := Lib.hid (Check_yes label h1)
      rw [h1, Bool.true_and, HLE.out] at HNM
      clear h1
      by_cases h64 : label.size + 1 + s.size ≤ 64
      rotate_left 1
      · rw [decide_eq_false h64, Bool.false_and] at HNM
        have d64 : decide (((label.size : Int) + 1 + (s.size : Int)) ≤ 64) = false := decide_eq_false (by omega)
        have d65 : decide (((((label ++ (⟨#[46]⟩ : ByteArray)) ++ s).size : Nat) : Int) ≤ 64) = false := decide_eq_false (by omega)
        have hm : nameB (bl ((label ++ (⟨#[46]⟩ : ByteArray)) ++ s)) = false := by rw [HEM.out, HNM.out]
        have A6 := Lib.hid (Check_no _ hm)
        have A7 := Lib.hid (Up_is ((label ++ (⟨#[46]⟩ : ByteArray)) ++ s) ⟨#[]⟩ (by unfold upB; rw [hm]; rfl))
        have A8 := Lib.hid (Labels_no _ hm)
        clear hm hc8 hMsz h64
        repeat (go_wp2_with fail; first
          | (with_reducible refine (A5.out _).mono ?_; rintro e w_ ⟨rfl, b⟩; replace B := Lib.hid (bon B.out b); clear b)
          | (with_reducible refine (A6.out _).mono ?_; rintro e w_ ⟨rfl, b⟩; replace B := Lib.hid (bon B.out b); clear b)
          | (with_reducible refine (A7.out _).mono ?_; rintro e w_ ⟨rfl, b⟩; replace B := Lib.hid (bon B.out b); clear b)
          | (with_reducible refine (A8.out _).mono ?_; rintro e w_ ⟨rfl, b⟩; replace B := Lib.hid (bon B.out b); clear b))
        go_wp2_with fail
        go_ret
        exact ⟨rfl, B.out⟩
      rw [decide_eq_true h64, Bool.true_and] at HNM
      have d64 : decide (((label.size : Int) + 1 + (s.size : Int)) ≤ 64) = true := decide_eq_true (by omega)
      have d65 : decide (((((label ++ (⟨#[46]⟩ : ByteArray)) ++ s).size : Nat) : Int) ≤ 64) = true := decide_eq_true (by omega)
      clear h64 hMsz
      obtain ⟨n, hnL⟩ : ∃ n, (cuts (bl s)).length = n := ⟨_, rfl⟩
      have HNL := Lib.hid hnL
      rw [hnL] at hc8 A4 HNM
      clear hnL
      by_cases h8 : n < 8
      rotate_left 1
      · rw [decide_eq_false h8] at HNM
        have d8 : decide ((n : Int) < 8) = false := decide_eq_false (by omega)
        have hm : nameB (bl ((label ++ (⟨#[46]⟩ : ByteArray)) ++ s)) = false := by rw [HEM.out, HNM.out]
        have A6 := Lib.hid (Check_no _ hm)
        have A7 := Lib.hid (Up_is ((label ++ (⟨#[46]⟩ : ByteArray)) ++ s) ⟨#[]⟩ (by unfold upB; rw [hm]; rfl))
        have A8 := Lib.hid (Labels_no _ hm)
        clear hm hc8 h8
        go_wp2_with fail
        refine (A5.out _).mono ?_; rintro e w2 ⟨rfl, b⟩; replace B := Lib.hid (bon B.out b); clear b
        go_wp2_with fail
        refine (A4.out _).mono ?_; rintro e w3 ⟨⟨g, c, rfl, _⟩, b⟩; replace B := Lib.hid (bon B.out b); clear b
        repeat (go_wp2_with fail; first
          | (with_reducible refine (A6.out _).mono ?_; rintro e w_ ⟨rfl, b⟩; replace B := Lib.hid (bon B.out b); clear b)
          | (with_reducible refine (A7.out _).mono ?_; rintro e w_ ⟨rfl, b⟩; replace B := Lib.hid (bon B.out b); clear b)
          | (with_reducible refine (A8.out _).mono ?_; rintro e w_ ⟨rfl, b⟩; replace B := Lib.hid (bon B.out b); clear b))
        go_wp2_with fail
        go_ret
        exact ⟨rfl, B.out⟩
      rw [decide_eq_true h8] at HNM
      have d8 : decide ((n : Int) < 8) = true := decide_eq_true (by omega)
      have hm : nameB (bl ((label ++ (⟨#[46]⟩ : ByteArray)) ++ s)) = true := by rw [HEM.out, HNM.out]
      have A6 := Lib.hid (Check_yes _ hm)
      have A7 := Lib.hid (Up_is ((label ++ (⟨#[46]⟩ : ByteArray)) ++ s) s (by unfold upB; rw [hm, HEM.out, HBH.out]; rfl))
      have A8 := Lib.hid (Labels_go _ hm)
      have A9 := Lib.hid (Under_is ((label ++ (⟨#[46]⟩ : ByteArray)) ++ s) s true (by have := (name_len hm).2.1; rw [bl_len] at this; omega) (by
        have hb : belowB (bl ((label ++ (⟨#[46]⟩ : ByteArray)) ++ s)) (bl s) = true := by
          unfold belowB; rw [HEM.out, HSUF.out]; simp
        unfold underB; rw [hm, hb]; simp))
      rw [HEM.out, HCUT.out, List.length_cons, HNL.out] at A8
      clear hm hc8
      go_wp2_with fail
      refine (A5.out _).mono ?_; rintro e w2 ⟨rfl, b⟩; replace B := Lib.hid (bon B.out b); clear b
      go_wp2_with fail
      refine (A4.out _).mono ?_; rintro e w3 ⟨⟨g, c, rfl, _⟩, b⟩; replace B := Lib.hid (bon B.out b); clear b
      go_wp2_with fail
      refine (A6.out _).mono ?_; rintro e w4 ⟨rfl, b⟩; replace B := Lib.hid (bon B.out b); clear b
      go_wp2_with fail
      refine (A8.out _).mono ?_; rintro e w5 ⟨⟨g2, c2, rfl, ho⟩, b⟩; replace B := Lib.hid (bon B.out b); clear b
      have hst := st_own ho
      obtain ⟨ad, e, hlb, hcell⟩ := hst 0 (by simp)
      injection e with e; subst e
      have hcell : w5.cell? ⟨g2, 0, none⟩ = some (.string label) := by
        rw [add_zero_off] at hcell
        rw [hcell]; rfl
      have HLB := Lib.hid hlb
      have HC := Lib.hid hcell
      clear ho hst hlb hcell
      go_wp2_with fail
      refine (A7.out _).mono ?_; rintro e w6 ⟨rfl, b⟩; replace B := Lib.hid (bon B.out b)
      have hcell : w6.cell? ⟨g2, 0, none⟩ = some (.string label) := (b.cell HLB.out).trans HC.out
      clear b
      go_wp2_with fail
      refine (A9.out _).mono ?_; rintro e w7 ⟨rfl, b⟩; replace B := Lib.hid (bon B.out b); clear b
      go_wp2_with fail
      go_ret
      exact ⟨rfl, B.out⟩
end Go.Proofs.Ytcmkfomfmjgmpaa

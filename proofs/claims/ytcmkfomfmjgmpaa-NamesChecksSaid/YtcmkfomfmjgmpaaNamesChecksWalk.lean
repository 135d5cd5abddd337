/- The walk of NamesChecks. (Printed by tools/gen_names_walks.py.) -/
import Derived.Test.YtcmkfomfmjgmpaaNamesM
namespace Go.Proofs.Ytcmkfomfmjgmpaa
open Go.ChangeShapes Go.WideShapes Go.ChangeAt Go.RowKit Go.Shelf Gs
set_option linter.unusedVariables false
set_option maxRecDepth 100000 in
set_option maxHeartbeats 8000000 in
theorem checks_walk11 (s : ByteArray) (W : World) : Calls Try.prog 3 #[.string s] W fun e w' => e = .returned (.bool true) ∧ Below W.heap.size W w' := by
  have A0 := Lib.hid live11
  by_cases hz : s.size ≤ 300
  rotate_left 1
  · have d1 : decide ((300 : Int) < (s.size : Int)) = true := decide_eq_true (by omega)
    clear hz
    have B := Lib.hid (Below.refl W.heap.size W)
    go_enter Try.func3, Try.ntmps3
    repeat (go_wp2_with fail; first
      | (with_reducible refine (A0.out _).mono ?_; rintro e w_ ⟨rfl, b⟩; replace B := Lib.hid (bon B.out b); clear b))
    go_wp2_with fail
    go_ret
    exact ⟨rfl, B.out⟩
  have d1 : decide ((300 : Int) < (s.size : Int)) = false := decide_eq_false (by omega)
  clear hz
  have A1 := Lib.hid (Check_any s)
  have A2 := Lib.hid (Check11_any s)
  have A3 := Lib.hid (Pattern_any s)
  have A4 := Lib.hid (Pattern11_any s)
  generalize (if patB (bl s) = true then (0 : Int) else 110) = pv at A3 A4
  obtain ⟨t, ht⟩ : ∃ t : ByteArray, upB (bl s) = bl t := ⟨⟨(upB (bl s)).toArray⟩, (bl_mk _).symm⟩
  have A5 := Lib.hid (Up_is s t ht)
  have A6 := Lib.hid (Up11_is s t ht)
  clear ht
  cases hn : nameB (bl s)
  · rw [if_neg (by rw [hn]; simp)] at A1 A2
    have A7 := Lib.hid (Labels_no s hn)
    have A8 := Lib.hid (Labels11_no s hn)
    have SM := Lib.hid (fun w => Same11_yes none none 0 0 [] 0 0 w (by decide) (fun j h => absurd h (by simp)) (fun j h => absurd h (by simp)))
    clear hn
    have B := Lib.hid (Below.refl W.heap.size W)
    go_enter Try.func3, Try.ntmps3
    repeat (go_wp2_with fail; first
      | (with_reducible refine (A0.out _).mono ?_; rintro e w_ ⟨rfl, b⟩; replace B := Lib.hid (bon B.out b); clear b)
      | (with_reducible refine (A1.out _).mono ?_; rintro e w_ ⟨rfl, b⟩; replace B := Lib.hid (bon B.out b); clear b)
      | (with_reducible refine (A2.out _).mono ?_; rintro e w_ ⟨rfl, b⟩; replace B := Lib.hid (bon B.out b); clear b)
      | (with_reducible refine (A3.out _).mono ?_; rintro e w_ ⟨rfl, b⟩; replace B := Lib.hid (bon B.out b); clear b)
      | (with_reducible refine (A4.out _).mono ?_; rintro e w_ ⟨rfl, b⟩; replace B := Lib.hid (bon B.out b); clear b)
      | (with_reducible refine (A7.out _).mono ?_; rintro e w_ ⟨rfl, b⟩; replace B := Lib.hid (bon B.out b); clear b)
      | (with_reducible refine (A8.out _).mono ?_; rintro e w_ ⟨rfl, b⟩; replace B := Lib.hid (bon B.out b); clear b))
    go_wp2_with fail
    refine (SM.out _).mono ?_; rintro e w5 ⟨rfl, nd, rfl⟩
    replace B := Lib.hid (below_drewN B.out nd)
    repeat (go_wp2_with fail; first
      | (with_reducible refine (A5.out _).mono ?_; rintro e w_ ⟨rfl, b⟩; replace B := Lib.hid (bon B.out b); clear b)
      | (with_reducible refine (A6.out _).mono ?_; rintro e w_ ⟨rfl, b⟩; replace B := Lib.hid (bon B.out b); clear b))
    go_wp2_with fail
    go_ret
    exact ⟨rfl, B.out⟩
  · rw [if_pos hn] at A1 A2
    have A7 := Lib.hid (Labels_go s hn)
    have A8 := Lib.hid (Labels11_yes s hn)
    have hne := cuts_ne (bl s)
    have hl8 := (name_len hn).2.2
    generalize cuts (bl s) = L at A7 A8 hne hl8
    clear hn
    have B := Lib.hid (Below.refl W.heap.size W)
    go_enter Try.func3, Try.ntmps3
    repeat (go_wp2_with fail; first
      | (with_reducible refine (A0.out _).mono ?_; rintro e w_ ⟨rfl, b⟩; replace B := Lib.hid (bon B.out b); clear b)
      | (with_reducible refine (A1.out _).mono ?_; rintro e w_ ⟨rfl, b⟩; replace B := Lib.hid (bon B.out b); clear b)
      | (with_reducible refine (A2.out _).mono ?_; rintro e w_ ⟨rfl, b⟩; replace B := Lib.hid (bon B.out b); clear b)
      | (with_reducible refine (A3.out _).mono ?_; rintro e w_ ⟨rfl, b⟩; replace B := Lib.hid (bon B.out b); clear b)
      | (with_reducible refine (A4.out _).mono ?_; rintro e w_ ⟨rfl, b⟩; replace B := Lib.hid (bon B.out b); clear b))
    go_wp2_with fail
    refine (A7.out _).mono ?_; rintro e w5 ⟨⟨g, cap, rfl, ho⟩, b⟩
    have S1 := Lib.hid (st_own ho)
    replace B := Lib.hid (bon B.out b)
    clear b ho
    go_wp2_with fail
    refine (A8.out _).mono ?_; rintro e w6 ⟨⟨v, rfl, ho⟩, b⟩
    obtain ⟨g2, cap2, rfl, hst⟩ := ownT_slice ho hne
    have S1 := Lib.hid (S1.out.on b)
    have S2 := Lib.hid hst
    replace B := Lib.hid (bon B.out b)
    clear b ho hst
    have SM := Lib.hid (Same11_yes (some ⟨g, 0, none⟩) (some ⟨g2, 0, none⟩) cap cap2 L _ _ w6 (by omega) S1.out S2.out)
    generalize L.length = n at SM ⊢
    go_wp2_with fail
    refine SM.out.mono ?_; rintro e w7 ⟨rfl, nd, rfl⟩
    replace B := Lib.hid (below_drewN B.out nd)
    repeat (go_wp2_with fail; first
      | (with_reducible refine (A5.out _).mono ?_; rintro e w_ ⟨rfl, b⟩; replace B := Lib.hid (bon B.out b); clear b)
      | (with_reducible refine (A6.out _).mono ?_; rintro e w_ ⟨rfl, b⟩; replace B := Lib.hid (bon B.out b); clear b))
    go_wp2_with fail
    go_ret
    exact ⟨rfl, B.out⟩
end Go.Proofs.Ytcmkfomfmjgmpaa

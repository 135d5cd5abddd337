/- The walk of NamesWithin. (Printed by tools/gen_names_walks.py.) -/
import Derived.Test.YtcmkfomfmjgmpaaNamesM
namespace Go.Proofs.Ytcmkfomfmjgmpaa
open Go.ChangeShapes Go.WideShapes Go.ChangeAt Go.RowKit Go.Shelf Gs
set_option linter.unusedVariables false
theorem bl_app (s t : ByteArray) : bl (s ++ t) = bl s ++ bl t := by simp [bl]

set_option maxRecDepth 100000 in
set_option maxHeartbeats 8000000 in
theorem within_walk11 (p q s : ByteArray) (W : World) : Calls Try.prog 5 #[.string p, .string q, .string s] W fun e w' => e = .returned (.bool true) ∧ Below W.heap.size W w' := by
  have A0 := Lib.hid live11
  by_cases hz : p.size ≤ 300 ∧ q.size ≤ 300 ∧ s.size ≤ 300
  rotate_left 1
  · have A1 := Lib.hid (short_no p q s hz)
    clear hz
    have B := Lib.hid (Below.refl W.heap.size W)
    go_enter Try.func5, Try.ntmps5
    repeat (go_wp2_with fail; first
      | (with_reducible refine (A0.out _).mono ?_; rintro e w_ ⟨rfl, b⟩; replace B := Lib.hid (bon B.out b); clear b)
      | (with_reducible refine (A1.out _).mono ?_; rintro e w_ ⟨rfl, b⟩; replace B := Lib.hid (bon B.out b); clear b))
    go_wp2_with fail
    go_ret
    exact ⟨rfl, B.out⟩
  have A1 := Lib.hid (short_yes p q s hz)
  have HZ := Lib.hid hz
  clear hz
  cases hp : patB (bl p)
  · have A2 := Lib.hid (Pattern_no p hp)
    have A3 := Lib.hid (Within_is p q false (within_nop hp))
    clear hp
    have B := Lib.hid (Below.refl W.heap.size W)
    go_enter Try.func5, Try.ntmps5
    repeat (go_wp2_with fail; first
      | (with_reducible refine (A0.out _).mono ?_; rintro e w_ ⟨rfl, b⟩; replace B := Lib.hid (bon B.out b); clear b)
      | (with_reducible refine (A1.out _).mono ?_; rintro e w_ ⟨rfl, b⟩; replace B := Lib.hid (bon B.out b); clear b)
      | (with_reducible refine (A2.out _).mono ?_; rintro e w_ ⟨rfl, b⟩; replace B := Lib.hid (bon B.out b); clear b)
      | (with_reducible refine (A3.out _).mono ?_; rintro e w_ ⟨rfl, b⟩; replace B := Lib.hid (bon B.out b); clear b))
    go_wp2_with fail
    go_ret
    exact ⟨rfl, B.out⟩
  have A2 := Lib.hid (Pattern_yes p hp)
  cases hq : patB (bl q)
  · have A3 := Lib.hid (Pattern_no q hq)
    have A4 := Lib.hid (Within_is p q false (within_noq hq))
    clear hp hq
    have B := Lib.hid (Below.refl W.heap.size W)
    go_enter Try.func5, Try.ntmps5
    repeat (go_wp2_with fail; first
      | (with_reducible refine (A0.out _).mono ?_; rintro e w_ ⟨rfl, b⟩; replace B := Lib.hid (bon B.out b); clear b)
      | (with_reducible refine (A1.out _).mono ?_; rintro e w_ ⟨rfl, b⟩; replace B := Lib.hid (bon B.out b); clear b)
      | (with_reducible refine (A2.out _).mono ?_; rintro e w_ ⟨rfl, b⟩; replace B := Lib.hid (bon B.out b); clear b)
      | (with_reducible refine (A3.out _).mono ?_; rintro e w_ ⟨rfl, b⟩; replace B := Lib.hid (bon B.out b); clear b)
      | (with_reducible refine (A4.out _).mono ?_; rintro e w_ ⟨rfl, b⟩; replace B := Lib.hid (bon B.out b); clear b))
    go_wp2_with fail
    go_ret
    exact ⟨rfl, B.out⟩
  have A3 := Lib.hid (Pattern_yes q hq)
  cases hw : withinB (bl p) (bl q)
  rotate_left 1
  · have A4 := Lib.hid (Within_is p q true hw)
    cases hm : matchB (bl p) (bl s)
    · have A5 := Lib.hid (Match_is p s false hm)
      clear hp hq hw hm
      have B := Lib.hid (Below.refl W.heap.size W)
      go_enter Try.func5, Try.ntmps5
      repeat (go_wp2_with fail; first
        | (with_reducible refine (A0.out _).mono ?_; rintro e w_ ⟨rfl, b⟩; replace B := Lib.hid (bon B.out b); clear b)
        | (with_reducible refine (A1.out _).mono ?_; rintro e w_ ⟨rfl, b⟩; replace B := Lib.hid (bon B.out b); clear b)
        | (with_reducible refine (A2.out _).mono ?_; rintro e w_ ⟨rfl, b⟩; replace B := Lib.hid (bon B.out b); clear b)
        | (with_reducible refine (A3.out _).mono ?_; rintro e w_ ⟨rfl, b⟩; replace B := Lib.hid (bon B.out b); clear b)
        | (with_reducible refine (A4.out _).mono ?_; rintro e w_ ⟨rfl, b⟩; replace B := Lib.hid (bon B.out b); clear b)
        | (with_reducible refine (A5.out _).mono ?_; rintro e w_ ⟨rfl, b⟩; replace B := Lib.hid (bon B.out b); clear b))
      go_wp2_with fail
      go_ret
      exact ⟨rfl, B.out⟩
    · have A5 := Lib.hid (Match_is p s true hm)
      have A6 := Lib.hid (Match_is q s true (within_match hw hm))
      clear hp hq hw hm
      have B := Lib.hid (Below.refl W.heap.size W)
      go_enter Try.func5, Try.ntmps5
      repeat (go_wp2_with fail; first
        | (with_reducible refine (A0.out _).mono ?_; rintro e w_ ⟨rfl, b⟩; replace B := Lib.hid (bon B.out b); clear b)
        | (with_reducible refine (A1.out _).mono ?_; rintro e w_ ⟨rfl, b⟩; replace B := Lib.hid (bon B.out b); clear b)
        | (with_reducible refine (A2.out _).mono ?_; rintro e w_ ⟨rfl, b⟩; replace B := Lib.hid (bon B.out b); clear b)
        | (with_reducible refine (A3.out _).mono ?_; rintro e w_ ⟨rfl, b⟩; replace B := Lib.hid (bon B.out b); clear b)
        | (with_reducible refine (A4.out _).mono ?_; rintro e w_ ⟨rfl, b⟩; replace B := Lib.hid (bon B.out b); clear b)
        | (with_reducible refine (A5.out _).mono ?_; rintro e w_ ⟨rfl, b⟩; replace B := Lib.hid (bon B.out b); clear b)
        | (with_reducible refine (A6.out _).mono ?_; rintro e w_ ⟨rfl, b⟩; replace B := Lib.hid (bon B.out b); clear b))
      go_wp2_with fail
      go_ret
      exact ⟨rfl, B.out⟩
  have A4 := Lib.hid (Within_is p q false hw)
  rcases star_cases (bl p) hp with ⟨h1, h2⟩ | ⟨o, h1, h2, h3, h4⟩
  · have A5 := Lib.hid (Check_yes p h2)
    have A6 := Lib.hid (Match_is p p true (match_self h2))
    have A7 := Lib.hid (Match_is q p false (by rw [within_plain h1] at hw; exact hw))
    clear hp hq hw h1 h2
    have B := Lib.hid (Below.refl W.heap.size W)
    go_enter Try.func5, Try.ntmps5
    repeat (go_wp2_with fail; first
      | (with_reducible refine (A0.out _).mono ?_; rintro e w_ ⟨rfl, b⟩; replace B := Lib.hid (bon B.out b); clear b)
      | (with_reducible refine (A1.out _).mono ?_; rintro e w_ ⟨rfl, b⟩; replace B := Lib.hid (bon B.out b); clear b)
      | (with_reducible refine (A2.out _).mono ?_; rintro e w_ ⟨rfl, b⟩; replace B := Lib.hid (bon B.out b); clear b)
      | (with_reducible refine (A3.out _).mono ?_; rintro e w_ ⟨rfl, b⟩; replace B := Lib.hid (bon B.out b); clear b)
      | (with_reducible refine (A4.out _).mono ?_; rintro e w_ ⟨rfl, b⟩; replace B := Lib.hid (bon B.out b); clear b)
      | (with_reducible refine (A5.out _).mono ?_; rintro e w_ ⟨rfl, b⟩; replace B := Lib.hid (bon B.out b); clear b)
      | (with_reducible refine (A6.out _).mono ?_; rintro e w_ ⟨rfl, b⟩; replace B := Lib.hid (bon B.out b); clear b)
      | (with_reducible refine (A7.out _).mono ?_; rintro e w_ ⟨rfl, b⟩; replace B := Lib.hid (bon B.out b); clear b))
    go_wp2_with fail
    go_ret
    exact ⟨rfl, B.out⟩
  have A5 := Lib.hid (Check_no p h2)
  have hl : p.size = o.length + 2 := by rw [← bl_len, h3]; rfl
  have ho := (name_len (star_name h1)).1
  have d3 : decide ((p.size : Int) < 3) = false := decide_eq_false (by omega)
  have c1 : (1 : Int) ≤ (p.size : Int) := by omega
  have c2 : 1 ≤ p.size := by omega
  have c4 : ¬ 9223372036854775807 < p.size := by have := HZ.out; omega
  have e1 : bl ((⟨#[120]⟩ : ByteArray) ++ p.extract 1 p.size) = 120 :: 46 :: o := by rw [bl_app, bl_from, h3]; rfl
  have e2 : bl ((⟨#[121]⟩ : ByteArray) ++ p.extract 1 p.size) = 121 :: 46 :: o := by rw [bl_app, bl_from, h3]; rfl
  have A6 := Lib.hid (Match_is p ((⟨#[120]⟩ : ByteArray) ++ p.extract 1 p.size) true (by rw [e1]; exact wit_self (by decide) (by decide) h1))
  have A7 := Lib.hid (Match_is p ((⟨#[121]⟩ : ByteArray) ++ p.extract 1 p.size) true (by rw [e2]; exact wit_self (by decide) (by decide) h1))
  have h8 := wit_two h1 hw hq
  rw [← e1, ← e2] at h8
  cases hm : matchB (bl q) (bl ((⟨#[120]⟩ : ByteArray) ++ p.extract 1 p.size))
  · have A8 := Lib.hid (Match_is q ((⟨#[120]⟩ : ByteArray) ++ p.extract 1 p.size) false hm)
    clear hp hq hw h1 h2 h3 h4 hl ho e1 e2 h8 hm
    have B := Lib.hid (Below.refl W.heap.size W)
    go_enter Try.func5, Try.ntmps5
    repeat (go_wp2_with fail; first
      | (with_reducible refine (A0.out _).mono ?_; rintro e w_ ⟨rfl, b⟩; replace B := Lib.hid (bon B.out b); clear b)
      | (with_reducible refine (A1.out _).mono ?_; rintro e w_ ⟨rfl, b⟩; replace B := Lib.hid (bon B.out b); clear b)
      | (with_reducible refine (A2.out _).mono ?_; rintro e w_ ⟨rfl, b⟩; replace B := Lib.hid (bon B.out b); clear b)
      | (with_reducible refine (A3.out _).mono ?_; rintro e w_ ⟨rfl, b⟩; replace B := Lib.hid (bon B.out b); clear b)
      | (with_reducible refine (A4.out _).mono ?_; rintro e w_ ⟨rfl, b⟩; replace B := Lib.hid (bon B.out b); clear b)
      | (with_reducible refine (A5.out _).mono ?_; rintro e w_ ⟨rfl, b⟩; replace B := Lib.hid (bon B.out b); clear b)
      | (with_reducible refine (A6.out _).mono ?_; rintro e w_ ⟨rfl, b⟩; replace B := Lib.hid (bon B.out b); clear b)
      | (with_reducible refine (A7.out _).mono ?_; rintro e w_ ⟨rfl, b⟩; replace B := Lib.hid (bon B.out b); clear b)
      | (with_reducible refine (A8.out _).mono ?_; rintro e w_ ⟨rfl, b⟩; replace B := Lib.hid (bon B.out b); clear b))
    go_wp2_with fail
    go_ret
    exact ⟨rfl, B.out⟩
  · rw [hm, Bool.true_and] at h8
    have A8 := Lib.hid (Match_is q ((⟨#[120]⟩ : ByteArray) ++ p.extract 1 p.size) true hm)
    have A9 := Lib.hid (Match_is q ((⟨#[121]⟩ : ByteArray) ++ p.extract 1 p.size) false h8)
    clear hp hq hw h1 h2 h3 h4 hl ho e1 e2 h8 hm
    have B := Lib.hid (Below.refl W.heap.size W)
    go_enter Try.func5, Try.ntmps5
    repeat (go_wp2_with fail; first
      | (with_reducible refine (A0.out _).mono ?_; rintro e w_ ⟨rfl, b⟩; replace B := Lib.hid (bon B.out b); clear b)
      | (with_reducible refine (A1.out _).mono ?_; rintro e w_ ⟨rfl, b⟩; replace B := Lib.hid (bon B.out b); clear b)
      | (with_reducible refine (A2.out _).mono ?_; rintro e w_ ⟨rfl, b⟩; replace B := Lib.hid (bon B.out b); clear b)
      | (with_reducible refine (A3.out _).mono ?_; rintro e w_ ⟨rfl, b⟩; replace B := Lib.hid (bon B.out b); clear b)
      | (with_reducible refine (A4.out _).mono ?_; rintro e w_ ⟨rfl, b⟩; replace B := Lib.hid (bon B.out b); clear b)
      | (with_reducible refine (A5.out _).mono ?_; rintro e w_ ⟨rfl, b⟩; replace B := Lib.hid (bon B.out b); clear b)
      | (with_reducible refine (A6.out _).mono ?_; rintro e w_ ⟨rfl, b⟩; replace B := Lib.hid (bon B.out b); clear b)
      | (with_reducible refine (A7.out _).mono ?_; rintro e w_ ⟨rfl, b⟩; replace B := Lib.hid (bon B.out b); clear b)
      | (with_reducible refine (A8.out _).mono ?_; rintro e w_ ⟨rfl, b⟩; replace B := Lib.hid (bon B.out b); clear b)
      | (with_reducible refine (A9.out _).mono ?_; rintro e w_ ⟨rfl, b⟩; replace B := Lib.hid (bon B.out b); clear b))
    go_wp2_with fail
    go_ret
    exact ⟨rfl, B.out⟩
end Go.Proofs.Ytcmkfomfmjgmpaa

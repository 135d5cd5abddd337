/- The walk of NamesCompares. (Printed by tools/gen_names_walks.py.) -/
import Derived.Test.YtcmkfomfmjgmpaaNamesM
namespace Go.Proofs.Ytcmkfomfmjgmpaa
open Go.ChangeShapes Go.WideShapes Go.ChangeAt Go.RowKit Go.Shelf Gs
set_option linter.unusedVariables false
set_option maxRecDepth 100000 in
set_option maxHeartbeats 8000000 in
theorem compares_walk11 (a b : ByteArray) (W : World) : Calls Try.prog 4 #[.string a, .string b] W fun e w' => e = .returned (.bool true) ∧ Below W.heap.size W w' := by
  have A0 := Lib.hid live11
  by_cases hz : a.size ≤ 300 ∧ b.size ≤ 300 ∧ (⟨#[]⟩ : ByteArray).size ≤ 300
  rotate_left 1
  · have A1 := Lib.hid (short_no a b ⟨#[]⟩ hz)
    clear hz
    have B := Lib.hid (Below.refl W.heap.size W)
    go_enter Try.func4, Try.ntmps4
    repeat (go_wp2_with fail; first
      | (with_reducible refine (A0.out _).mono ?_; rintro e w_ ⟨rfl, b⟩; replace B := Lib.hid (bon B.out b); clear b)
      | (with_reducible refine (A1.out _).mono ?_; rintro e w_ ⟨rfl, b⟩; replace B := Lib.hid (bon B.out b); clear b))
    go_wp2_with fail
    go_ret
    exact ⟨rfl, B.out⟩
  have A1 := Lib.hid (short_yes a b ⟨#[]⟩ hz)
  have A2 := Lib.hid (Under_any a b (by omega))
  clear hz
  have A3 := Lib.hid (Under11_any a b)
  have A4 := Lib.hid (Match_any a b)
  have A5 := Lib.hid (Match11_any a b)
  have A6 := Lib.hid (Within_any a b)
  have A7 := Lib.hid (Within11_any a b)
  have A8 := Lib.hid (Meets_any a b)
  have A9 := Lib.hid (Meets11_any a b)
  generalize underB (bl a) (bl b) = u at A2 A3
  generalize matchB (bl a) (bl b) = m at A4 A5
  generalize withinB (bl a) (bl b) = i at A6 A7
  generalize meetsB (bl a) (bl b) = x at A8 A9
  have B := Lib.hid (Below.refl W.heap.size W)
  go_enter Try.func4, Try.ntmps4
  repeat (go_wp2_with fail; first
    | (with_reducible refine (A0.out _).mono ?_; rintro e w_ ⟨rfl, b⟩; replace B := Lib.hid (bon B.out b); clear b)
    | (with_reducible refine (A1.out _).mono ?_; rintro e w_ ⟨rfl, b⟩; replace B := Lib.hid (bon B.out b); clear b)
    | (with_reducible refine (A2.out _).mono ?_; rintro e w_ ⟨rfl, b⟩; replace B := Lib.hid (bon B.out b); clear b)
    | (with_reducible refine (A3.out _).mono ?_; rintro e w_ ⟨rfl, b⟩; replace B := Lib.hid (bon B.out b); clear b)
    | (with_reducible refine (A4.out _).mono ?_; rintro e w_ ⟨rfl, b⟩; replace B := Lib.hid (bon B.out b); clear b)
    | (with_reducible refine (A5.out _).mono ?_; rintro e w_ ⟨rfl, b⟩; replace B := Lib.hid (bon B.out b); clear b)
    | (with_reducible refine (A6.out _).mono ?_; rintro e w_ ⟨rfl, b⟩; replace B := Lib.hid (bon B.out b); clear b)
    | (with_reducible refine (A7.out _).mono ?_; rintro e w_ ⟨rfl, b⟩; replace B := Lib.hid (bon B.out b); clear b)
    | (with_reducible refine (A8.out _).mono ?_; rintro e w_ ⟨rfl, b⟩; replace B := Lib.hid (bon B.out b); clear b)
    | (with_reducible refine (A9.out _).mono ?_; rintro e w_ ⟨rfl, b⟩; replace B := Lib.hid (bon B.out b); clear b))
  go_wp2_with fail
  go_ret
  exact ⟨rfl, B.out⟩
end Go.Proofs.Ytcmkfomfmjgmpaa

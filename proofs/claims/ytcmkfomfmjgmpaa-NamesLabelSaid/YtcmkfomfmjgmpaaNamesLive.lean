/- The chapter's examples of names. (Printed by tools/gen_names_live.py.) -/
import Derived.Test.YtcmkfomfmjgmpaaNamesL
namespace Go.Proofs.Ytcmkfomfmjgmpaa
open Go.ChangeShapes Go.WideShapes Go.ChangeAt Go.RowKit Go.Shelf Gs
set_option linter.unusedVariables false
theorem nb0 (w : World) (o : Obj) : Below w.heap.size w (w.alloc o) := (Below.refl _ _).alloc (Nat.le_refl _) _

set_option maxRecDepth 100000 in
set_option maxHeartbeats 8000000 in
theorem live11 (w : World) : Calls Try.prog 12 #[] w fun e w' => e = .returned (.bool true) ∧ Below w.heap.size w w' := by
  have A0 := Lib.hid (Check_yes ⟨#[97, 46, 98, 46, 99]⟩ (by kernel_rfl))
  have A1 := Lib.hid (Check_yes ⟨#[95, 97]⟩ (by kernel_rfl))
  have A2 := Lib.hid (Pattern_yes ⟨#[42, 46, 99]⟩ (by kernel_rfl))
  have A3 := Lib.hid (Check_no ⟨#[42, 46, 99]⟩ (by kernel_rfl))
  have A4 := Lib.hid (Check_no ⟨#[45, 97]⟩ (by kernel_rfl))
  have A5 := Lib.hid (Check_no ⟨#[97, 46, 46, 98]⟩ (by kernel_rfl))
  have A6 := Lib.hid (Check_no ⟨#[97, 45]⟩ (by kernel_rfl))
  have A7 := Lib.hid (Check_no ⟨#[95]⟩ (by kernel_rfl))
  have A8 := Lib.hid (Check_no ⟨#[]⟩ (by kernel_rfl))
  have A9 := Lib.hid (Pattern_no ⟨#[42, 46]⟩ (by kernel_rfl))
  have A10 := Lib.hid (Labels_go ⟨#[97, 46, 98, 46, 99]⟩ (by kernel_rfl))
  rw [show cuts (bl ⟨#[97, 46, 98, 46, 99]⟩) = [[97], [98], [99]] by kernel_rfl] at A10
  have A12 := Lib.hid (Up_is ⟨#[97, 46, 98, 46, 99]⟩ ⟨#[98, 46, 99]⟩ (by kernel_rfl))
  have A13 := Lib.hid (Up_is ⟨#[99]⟩ ⟨#[]⟩ (by kernel_rfl))
  have A14 := Lib.hid (Under_is ⟨#[97, 46, 98, 46, 99]⟩ ⟨#[99]⟩ true (by decide) (by kernel_rfl))
  have A15 := Lib.hid (Under_is ⟨#[99]⟩ ⟨#[99]⟩ true (by decide) (by kernel_rfl))
  have A16 := Lib.hid (Under_is ⟨#[97, 99]⟩ ⟨#[99]⟩ false (by decide) (by kernel_rfl))
  have A17 := Lib.hid (Match_is ⟨#[42, 46, 99]⟩ ⟨#[97, 46, 98, 46, 99]⟩ true (by kernel_rfl))
  have A18 := Lib.hid (Match_is ⟨#[42, 46, 99]⟩ ⟨#[99]⟩ false (by kernel_rfl))
  have A19 := Lib.hid (Within_is ⟨#[42, 46, 98, 46, 99]⟩ ⟨#[42, 46, 99]⟩ true (by kernel_rfl))
  have A20 := Lib.hid (Within_is ⟨#[42, 46, 99]⟩ ⟨#[42, 46, 98, 46, 99]⟩ false (by kernel_rfl))
  have A21 := Lib.hid (Meets_is ⟨#[42, 46, 99]⟩ ⟨#[42, 46, 98, 46, 99]⟩ true (by kernel_rfl))
  have A22 := Lib.hid (Meets_is ⟨#[42, 46, 99]⟩ ⟨#[99]⟩ false (by kernel_rfl))
  have B := Lib.hid (Below.refl w.heap.size w)
  go_enter Try.func12, Try.ntmps12
  go_wp2_with fail
  refine (A0.out _).mono ?_; rintro e w0 ⟨rfl, b⟩
  have B := Lib.hid (bon B.out b)
  clear b
  go_wp2_with fail
  refine (A1.out _).mono ?_; rintro e w1 ⟨rfl, b⟩
  have B := Lib.hid (bon B.out b)
  clear b
  go_wp2_with fail
  refine (A2.out _).mono ?_; rintro e w2 ⟨rfl, b⟩
  have B := Lib.hid (bon B.out b)
  clear b
  go_wp2_with fail
  refine (A3.out _).mono ?_; rintro e w3 ⟨rfl, b⟩
  have B := Lib.hid (bon B.out b)
  clear b
  go_wp2_with fail
  refine (A4.out _).mono ?_; rintro e w4 ⟨rfl, b⟩
  have B := Lib.hid (bon B.out b)
  clear b
  go_wp2_with fail
  refine (A5.out _).mono ?_; rintro e w5 ⟨rfl, b⟩
  have B := Lib.hid (bon B.out b)
  clear b
  go_wp2_with fail
  refine (A6.out _).mono ?_; rintro e w6 ⟨rfl, b⟩
  have B := Lib.hid (bon B.out b)
  clear b
  go_wp2_with fail
  refine (A7.out _).mono ?_; rintro e w7 ⟨rfl, b⟩
  have B := Lib.hid (bon B.out b)
  clear b
  go_wp2_with fail
  refine (A8.out _).mono ?_; rintro e w8 ⟨rfl, b⟩
  have B := Lib.hid (bon B.out b)
  clear b
  go_wp2_with fail
  refine (A9.out _).mono ?_; rintro e w9 ⟨rfl, b⟩
  have B := Lib.hid (bon B.out b)
  clear b
  go_wp2_with fail
  refine (A10.out _).mono ?_; rintro e w10 ⟨⟨g, cap, rfl, ho⟩, b⟩
  have S1 := Lib.hid (st_own ho)
  have B := Lib.hid (bon B.out b)
  have na := nb0 w10 (.cells #[.string ⟨#[97]⟩, .string ⟨#[98]⟩, .string ⟨#[99]⟩] 9)
  have S2 := Lib.hid (st_blk3 (Blk.new_at w10 9 #[.string ⟨#[97]⟩, .string ⟨#[98]⟩, .string ⟨#[99]⟩] rfl))
  have S1 := Lib.hid (S1.out.on na)
  have B := Lib.hid (bon B.out na)
  clear b ho na
  go_wp2_with fail
  refine (Same11_any _ _ _ _ [[97], [98], [99]] [[97], [98], [99]] _ _ _ (by decide) (by decide) S1.out S2.out).mono ?_; rintro e w11 ⟨rfl, nd, rfl⟩
  have B := Lib.hid (below_drewN B.out nd)
  rw [show decide (([[97], [98], [99]] : List (List UInt8)) = [[97], [98], [99]]) = true from rfl]
  go_wp2_with fail
  refine (A12.out _).mono ?_; rintro e w12 ⟨rfl, b⟩
  have B := Lib.hid (bon B.out b)
  clear b
  go_wp2_with fail
  refine (A13.out _).mono ?_; rintro e w13 ⟨rfl, b⟩
  have B := Lib.hid (bon B.out b)
  clear b
  go_wp2_with fail
  refine (A14.out _).mono ?_; rintro e w14 ⟨rfl, b⟩
  have B := Lib.hid (bon B.out b)
  clear b
  go_wp2_with fail
  refine (A15.out _).mono ?_; rintro e w15 ⟨rfl, b⟩
  have B := Lib.hid (bon B.out b)
  clear b
  go_wp2_with fail
  refine (A16.out _).mono ?_; rintro e w16 ⟨rfl, b⟩
  have B := Lib.hid (bon B.out b)
  clear b
  go_wp2_with fail
  refine (A17.out _).mono ?_; rintro e w17 ⟨rfl, b⟩
  have B := Lib.hid (bon B.out b)
  clear b
  go_wp2_with fail
  refine (A18.out _).mono ?_; rintro e w18 ⟨rfl, b⟩
  have B := Lib.hid (bon B.out b)
  clear b
  go_wp2_with fail
  refine (A19.out _).mono ?_; rintro e w19 ⟨rfl, b⟩
  have B := Lib.hid (bon B.out b)
  clear b
  go_wp2_with fail
  refine (A20.out _).mono ?_; rintro e w20 ⟨rfl, b⟩
  have B := Lib.hid (bon B.out b)
  clear b
  go_wp2_with fail
  refine (A21.out _).mono ?_; rintro e w21 ⟨rfl, b⟩
  have B := Lib.hid (bon B.out b)
  clear b
  go_wp2_with fail
  refine (A22.out _).mono ?_; rintro e w22 ⟨rfl, b⟩
  have B := Lib.hid (bon B.out b)
  clear b
  go_wp2_with fail
  go_ret
  exact ⟨rfl, B.out⟩
end Go.Proofs.Ytcmkfomfmjgmpaa

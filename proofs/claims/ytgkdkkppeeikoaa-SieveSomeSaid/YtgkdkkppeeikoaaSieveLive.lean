/- The chapter's examples of the sieve. (Printed by tools/gen_sieve_live.py.) -/
import Derived.Test.YtgkdkkppeeikoaaSieveF
namespace Go.Proofs.Ytgkdkkppeeikoaa
open Go.ChangeShapes Go.WideShapes Go.ChangeAt Go.RowKit Gs
set_option linter.unusedVariables false

theorem si_rows {w : World} {base g len cap : Nat} {B : List Int} (h : w.ownsRow base 5 1 (.slice (some ⟨g, 0, none⟩) len cap) len (B.map (Value.int .u8))) : SI w w.heap.size .u8 (some ⟨g, 0, none⟩) B := by
  have hl : B.length = len := by have := h.1; simpa using this
  have h' : OwnB w base (.slice (some ⟨g, 0, none⟩) len cap) B := own_b h hl.symm rfl
  obtain ⟨A, c, e, _, _, hs, _⟩ := own_sliceB h'
  injection e with e1 e2 e3
  subst e1
  exact hs
theorem row_len {w : World} {base g len cap : Nat} {B : List Int} (h : w.ownsRow base 5 1 (.slice (some ⟨g, 0, none⟩) len cap) len (B.map (Value.int .u8))) : B.length = len := by have := h.1; simpa using this
theorem si_blk3 {w : World} {g : Nat} {x y z : Int} (h : Blk w g 3 #[.int .i64 x, .int .i64 y, .int .i64 z]) : SI w w.heap.size .i64 (some ⟨g, 0, none⟩) [x, y, z] := fun j hj => by
  refine ⟨_, rfl, h.lt, ?_⟩
  have : j = 0 ∨ j = 1 ∨ j = 2 := by simp at hj; omega
  rcases this with rfl | rfl | rfl
  · exact h.cell 0
  · exact h.cell 1
  · exact h.cell 2
theorem si_blk2 {w : World} {g : Nat} {x y : Int} (h : Blk w g 3 #[.int .i64 x, .int .i64 y]) : SI w w.heap.size .i64 (some ⟨g, 0, none⟩) [x, y] := fun j hj => by
  refine ⟨_, rfl, h.lt, ?_⟩
  have : j = 0 ∨ j = 1 := by simp at hj; omega
  rcases this with rfl | rfl
  · exact h.cell 0
  · exact h.cell 1
theorem si_byte {w : World} {g : Nat} {x : Int} (h : Blk w g 5 #[.int .u8 x]) : SI w w.heap.size .u8 (some ⟨g, 0, none⟩) [x] := fun j hj => by
  have : j = 0 := by simp at hj; omega
  subst this
  exact ⟨_, rfl, h.lt, h.cell 0⟩
theorem may_16 : mayN 16 2 1 = true := by decide
theorem may_8 : mayN 8 3 0 = true := by decide
theorem may_9 : mayN 9 2 1 = false := by decide
theorem chk_16 : chkS 16 2 1 2 = true := by decide
theorem chk_0 : chkS 0 0 0 0 = false := by decide
theorem zeros2 : List.replicate ((16 : Int) / 8).toNat (0 : Int) = [0, 0] := by decide
theorem New_16 (w : World) : Calls Try.prog 18 #[.int .i64 16, .int .i64 2, .int .i64 1] w fun e w' => (∃ g cap, e = .returned (.tuple #[svV 16 2 1 (some ⟨g, 0, none⟩) 2 cap, .int .i64 0]) ∧ w'.ownsRow w.heap.size 5 1 (.slice (some ⟨g, 0, none⟩) 2 cap) 2 (([0, 0] : List Int).map (Value.int .u8))) ∧ Below w.heap.size w w' := by
  have h := New_ok 16 2 1 may_16 w
  rw [show ((16 : Int) / 8).toNat = 2 from by decide] at h
  exact h
theorem by_00 : IsBy [0, 0] := zeros_by 2
theorem by_255 : IsBy [255] := full_by 1
theorem bare_7 : hasS 16 2 1 [0, 0] 7 = false := by have := bare_has may_16 7; rwa [zeros2] at this
theorem put_7 : hasS 16 2 1 (putB [0, 0] (pl 16 2 1 7)) 7 = true := put_has (B := [0, 0]) chk_16 (by decide)
theorem some_5 : ([5, -1, 5] : List Int).filter (hasS 8 3 0 [255]) = [5, 5] := by
  have h5 : hasS 8 3 0 [255] 5 = true := by have := full_has may_8 (n := 5) (by decide); exact this
  have h1 : hasS 8 3 0 [255] (-1) = false := by unfold hasS; rw [show rightN (-1) = false from by decide, Bool.and_false, Bool.false_and]
  simp [List.filter, h5, h1]

set_option maxRecDepth 100000 in
set_option maxHeartbeats 8000000 in
theorem live9 (w : World) : Calls Try.prog 9 #[] w fun e w' => e = .returned (.bool true) ∧ Below w.heap.size w w' := by
  have P7 := Lib.hid (fun ad c W hs => Put_chk 16 2 1 ad 2 c [0, 0] by_00 rfl chk_16 (by omega) 7 W hs)
  have PM := Lib.hid (fun ad c W hs => Put_chk 16 2 1 ad 2 c [0, 0] by_00 rfl chk_16 (by omega) (-1) W hs)
  go_enter Try.func9, Try.ntmps9
  go_wp2_with fail
  refine (New_16 _).mono ?_; rintro e w1 ⟨⟨g1, cap1, rfl, ho⟩, b⟩
  have HB := Lib.hid (b)
  have S1 := Lib.hid (si_rows ho)
  clear ho b
  have na := nb0 w1 (.cells #[.int .i64 16, .int .i64 2, .int .i64 1, .slice (some ⟨g1, 0, none⟩) 2 cap1] 26)
  have HB := Lib.hid (belowOn HB.out na)
  have S1 := Lib.hid (S1.out.on na)
  have XS := Lib.hid (show Blk (w1.alloc (.cells #[.int .i64 16, .int .i64 2, .int .i64 1, .slice (some ⟨g1, 0, none⟩) 2 cap1] 26)) w1.heap.size 26 #[.int .i64 16, .int .i64 2, .int .i64 1, .slice (some ⟨g1, 0, none⟩) 2 cap1] from Blk.new_at _ _ _ rfl)
  clear na
  go_wp2_with fail
  refine (P7.out _ _ _ S1.out).mono ?_; rintro e w2 ⟨b, ⟨_, g2, cap2, rfl, ho⟩ | ⟨h, _⟩⟩
  rotate_left 1
  · exact absurd h (by decide)
  have HB := Lib.hid (belowOn HB.out b)
  have S1 := Lib.hid (S1.out.on b)
  have XS := Lib.hid (XS.out.below b XS.out.lt)
  have S2 := Lib.hid (si_rows ho)
  have L2 := Lib.hid (row_len ho)
  clear ho b
  have na := nb0 w2 (.cells #[.int .i64 16, .int .i64 2, .int .i64 1, .slice (some ⟨g2, 0, none⟩) 2 cap2] 26)
  have HB := Lib.hid (belowOn HB.out na)
  have S1 := Lib.hid (S1.out.on na)
  have XS := Lib.hid (XS.out.below na XS.out.lt)
  have S2 := Lib.hid (S2.out.on na)
  have XX := Lib.hid (show Blk (w2.alloc (.cells #[.int .i64 16, .int .i64 2, .int .i64 1, .slice (some ⟨g2, 0, none⟩) 2 cap2] 26)) w2.heap.size 26 #[.int .i64 16, .int .i64 2, .int .i64 1, .slice (some ⟨g2, 0, none⟩) 2 cap2] from Blk.new_at _ _ _ rfl)
  clear na
  go_wp2_with fail
  refine (New_no 9 2 1 may_9 _).mono ?_; rintro e w3 ⟨rfl, b⟩
  have HB := Lib.hid (belowOn HB.out b)
  have S1 := Lib.hid (S1.out.on b)
  have XS := Lib.hid (XS.out.below b XS.out.lt)
  have S2 := Lib.hid (S2.out.on b)
  have XX := Lib.hid (XX.out.below b XX.out.lt)
  clear b
  have na := nb0 w3 (.cells #[.int .i64 0, .int .i64 0, .int .i64 0, .slice none 0 0] 26)
  have HB := Lib.hid (belowOn HB.out na)
  have S1 := Lib.hid (S1.out.on na)
  have XS := Lib.hid (XS.out.below na XS.out.lt)
  have S2 := Lib.hid (S2.out.on na)
  have XX := Lib.hid (XX.out.below na XX.out.lt)
  clear na
  obtain ⟨q0, q1, q2, q3⟩ := XS.out.facts4
  go_wp2_with fail
  refine (PM.out _ _ _ S1.out).mono ?_; rintro e w4 ⟨b, ⟨h, _⟩ | ⟨_, rfl⟩⟩
  · exact absurd h (by decide)
  have HB := Lib.hid (belowOn HB.out b)
  have S1 := Lib.hid (S1.out.on b)
  have XS := Lib.hid (XS.out.below b XS.out.lt)
  have S2 := Lib.hid (S2.out.on b)
  have XX := Lib.hid (XX.out.below b XX.out.lt)
  clear b q0 q1 q2 q3
  have na := nb0 w4 (.cells #[.int .i64 0, .int .i64 0, .int .i64 0, .slice none 0 0] 26)
  have HB := Lib.hid (belowOn HB.out na)
  have S1 := Lib.hid (S1.out.on na)
  have XS := Lib.hid (XS.out.below na XS.out.lt)
  have S2 := Lib.hid (S2.out.on na)
  have XX := Lib.hid (XX.out.below na XX.out.lt)
  clear na
  have na := nb1 (w4.alloc (.cells #[.int .i64 0, .int .i64 0, .int .i64 0, .slice none 0 0] 26)) (.cells #[.int .u8 255] 5) (.cells #[.int .i64 5, .int .i64 (-1), .int .i64 5] 3)
  have HB := Lib.hid (belowOn HB.out na)
  have S1 := Lib.hid (S1.out.on na)
  have XS := Lib.hid (XS.out.below na XS.out.lt)
  have S2 := Lib.hid (S2.out.on na)
  have XX := Lib.hid (XX.out.below na XX.out.lt)
  have S5 := Lib.hid (si_byte ((Blk.new_at (w4.alloc (.cells #[.int .i64 0, .int .i64 0, .int .i64 0, .slice none 0 0] 26)) 5 #[.int .u8 255] rfl).alloc (.cells #[.int .i64 5, .int .i64 (-1), .int .i64 5] 3)))
  have L5 := Lib.hid (si_blk3 (Blk.new_at ((w4.alloc (.cells #[.int .i64 0, .int .i64 0, .int .i64 0, .slice none 0 0] 26)).alloc (.cells #[.int .u8 255] 5)) 3 #[.int .i64 5, .int .i64 (-1), .int .i64 5] (g := w4.heap.size + 1 + 1) (by simp)))
  clear na
  go_wp2_with fail
  refine (Some_any 8 3 0 _ 1 1 [255] by_255 rfl (by unfold maxLen; omega) _ 3 [5, -1, 5] (by simp) _ (by simpa using S5.out) L5.out).mono ?_; rintro e w5 ⟨v5, rfl, ho, b⟩
  rw [some_5] at ho
  obtain ⟨A5, c5, rfl, _, _, hs5, _⟩ := own_sliceN ho
  have HB := Lib.hid (belowOn HB.out b)
  have S1 := Lib.hid (S1.out.on b)
  have XS := Lib.hid (XS.out.below b XS.out.lt)
  have S2 := Lib.hid (S2.out.on b)
  have XX := Lib.hid (XX.out.below b XX.out.lt)
  have S5 := Lib.hid (S5.out.on b)
  have L5 := Lib.hid (L5.out.on b)
  have S6 := Lib.hid (hs5)
  clear ho b hs5
  obtain ⟨q0, q1, q2, q3⟩ := XS.out.facts4
  go_wp2_with fail
  refine (Has_any 16 2 1 _ 2 _ [0, 0] by_00 rfl (by unfold maxLen; omega) 7 _ S1.out).mono ?_; rintro e w6 ⟨rfl, b⟩
  rw [bare_7]
  have HB := Lib.hid (belowOn HB.out b)
  have S1 := Lib.hid (S1.out.on b)
  have XS := Lib.hid (XS.out.below b XS.out.lt)
  have S2 := Lib.hid (S2.out.on b)
  have XX := Lib.hid (XX.out.below b XX.out.lt)
  have S5 := Lib.hid (S5.out.on b)
  have L5 := Lib.hid (L5.out.on b)
  have S6 := Lib.hid (S6.out.on b)
  clear b q0 q1 q2 q3
  obtain ⟨q0, q1, q2, q3⟩ := XX.out.facts4
  go_wp2_with fail
  refine (Has_any 16 2 1 _ 2 _ (putB [0, 0] (pl 16 2 1 7)) (putB_by _ by_00) L2.out (by unfold maxLen; omega) 7 _ S2.out).mono ?_; rintro e w7 ⟨rfl, b⟩
  rw [put_7]
  have HB := Lib.hid (belowOn HB.out b)
  have S1 := Lib.hid (S1.out.on b)
  have XS := Lib.hid (XS.out.below b XS.out.lt)
  have S2 := Lib.hid (S2.out.on b)
  have XX := Lib.hid (XX.out.below b XX.out.lt)
  have S5 := Lib.hid (S5.out.on b)
  have L5 := Lib.hid (L5.out.on b)
  have S6 := Lib.hid (S6.out.on b)
  clear b q0 q1 q2 q3
  obtain ⟨q0, q1, q2, q3⟩ := XX.out.facts4
  go_wp2_with fail
  refine (Check_ok chk_16 _ _ (by unfold maxLen; omega) _).mono ?_; rintro e w8 ⟨rfl, b⟩
  have HB := Lib.hid (belowOn HB.out b)
  have S1 := Lib.hid (S1.out.on b)
  have XS := Lib.hid (XS.out.below b XS.out.lt)
  have S2 := Lib.hid (S2.out.on b)
  have XX := Lib.hid (XX.out.below b XX.out.lt)
  have S5 := Lib.hid (S5.out.on b)
  have L5 := Lib.hid (L5.out.on b)
  have S6 := Lib.hid (S6.out.on b)
  clear b q0 q1 q2 q3
  go_wp2_with fail
  refine (Check_no chk_0 _ _ (by unfold maxLen; omega) _).mono ?_; rintro e w9 ⟨rfl, b⟩
  have HB := Lib.hid (belowOn HB.out b)
  have S1 := Lib.hid (S1.out.on b)
  have XS := Lib.hid (XS.out.below b XS.out.lt)
  have S2 := Lib.hid (S2.out.on b)
  have XX := Lib.hid (XX.out.below b XX.out.lt)
  have S5 := Lib.hid (S5.out.on b)
  have L5 := Lib.hid (L5.out.on b)
  have S6 := Lib.hid (S6.out.on b)
  clear b
  have na := nb0 w9 (.cells #[.int .i64 5, .int .i64 5] 3)
  have HB := Lib.hid (belowOn HB.out na)
  have S1 := Lib.hid (S1.out.on na)
  have XS := Lib.hid (XS.out.below na XS.out.lt)
  have S2 := Lib.hid (S2.out.on na)
  have XX := Lib.hid (XX.out.below na XX.out.lt)
  have S5 := Lib.hid (S5.out.on na)
  have L5 := Lib.hid (L5.out.on na)
  have S6 := Lib.hid (S6.out.on na)
  have I5 := Lib.hid (si_blk2 (Blk.new_at w9 3 #[.int .i64 5, .int .i64 5] rfl))
  clear na
  go_wp2_with fail
  refine (refInts_yes _ _ 2 2 _ _ [5, 5] rfl rfl _ _ _ (by omega) S6.out I5.out).mono ?_; rintro e w10 ⟨rfl, hd⟩
  obtain ⟨nd, rfl⟩ := hd
  go_wp2_with fail
  go_ret
  exact ⟨rfl, below_drewN HB.out nd⟩
end Go.Proofs.Ytgkdkkppeeikoaa

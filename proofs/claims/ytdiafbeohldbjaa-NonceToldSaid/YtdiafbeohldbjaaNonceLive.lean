/- The chapter's examples of nonce. (Printed by tools/gen_nonce_live.py.) -/
import Derived.Test.YtdiafbeohldbjaaNonceK
namespace Go.Proofs.Ytdiafbeohldbjaa
open Go.ChangeShapes Go.WideShapes Go.ChangeAt Go.RowKit Gs
set_option linter.unusedVariables false
set_option linter.unusedSimpArgs false

theorem t_a : tellF 0 [] 5 10 = (1, [(0, 15)], 0, 0) := by decide
theorem t_b : tellF 1 [(0, 15)] 6 2 = (2, [(0, 15), (1, 8)], 1, 0) := by decide
theorem t_c : useF 2 [(0, 15), (1, 8)] 0 15 = (2, [(1, 8)], 0) := by decide
theorem t_h : useF 2 [(1, 8)] 0 15 = (0, [], 210) := by decide
theorem t_i : useF 2 [(1, 8)] 1 9 = (0, [], 210) := by decide
theorem t_j : useF 2 [(1, 8)] 1 8 = (2, [], 0) := by decide
theorem t_k : useF 2 [(1, 8)] 2 8 = (0, [], 210) := by decide
theorem t_t : trimF 9 [(1, 8)] = [] := by decide
theorem t_m : chkF 2 [(1, 8)] = 0 := by decide
theorem t_n : chkF (-1) [] = 1 := by decide

set_option maxRecDepth 100000 in
set_option maxHeartbeats 8000000 in
theorem live21 (w : World) : Calls Try.prog 11 #[] w fun e w' => e = .returned (.bool true) ∧ Below w.heap.size w w' := by
  go_enter Try.func11, Try.ntmps11
  go_wp2_with fail
  have hfield := fun x A n c w => field_open x A n c w
  have HB := Lib.hid (Below.refl w.heap.size w)
  refine (Tell_k 0 none 0 0 [] rfl (by omega) 5 10 1 [(0, 15)] 1 0 0 t_a rfl _ (NS.nil _ _ _)).mono ?_; rintro _ w1 ⟨A1, c1, rfl, hcc, hns, b⟩
  have HB := Lib.hid (below_on HB.out b)
  have S1c := Lib.hid hcc
  have S1 := Lib.hid (hns)
  clear b hcc hns
  have na := nb0 w1 (.cells #[.int .i64 1, .slice A1 1 c1] 24)
  have HB := Lib.hid (below_on HB.out na)
  have S1 := Lib.hid (S1.out.on na)
  have XA := Lib.hid (show Blk (w1.alloc (.cells #[.int .i64 1, .slice A1 1 c1] 24)) w1.heap.size 24 #[.int .i64 1, .slice A1 1 c1] from Blk.new_at _ _ _ rfl)
  clear na
  go_wp2_with fail
  refine (Tell_k 1 A1 1 c1 [(0, 15)] rfl (by omega) 6 2 2 [(0, 15), (1, 8)] 2 1 0 t_b rfl _ S1.out).mono ?_; rintro _ w2 ⟨A2, c2, rfl, hcc, hns, b⟩
  have HB := Lib.hid (below_on HB.out b)
  have S1 := Lib.hid (S1.out.on b)
  have XA := Lib.hid (XA.out.below b XA.out.lt)
  have S2c := Lib.hid hcc
  have S2 := Lib.hid (hns)
  clear b hcc hns
  have na := nb0 w2 (.cells #[.int .i64 2, .slice A2 2 c2] 24)
  have HB := Lib.hid (below_on HB.out na)
  have S1 := Lib.hid (S1.out.on na)
  have XA := Lib.hid (XA.out.below na XA.out.lt)
  have S2 := Lib.hid (S2.out.on na)
  have XB := Lib.hid (show Blk (w2.alloc (.cells #[.int .i64 2, .slice A2 2 c2] 24)) w2.heap.size 24 #[.int .i64 2, .slice A2 2 c2] from Blk.new_at _ _ _ rfl)
  clear na
  go_wp2_with fail
  refine (Use_k 2 A2 2 c2 [(0, 15), (1, 8)] rfl (by omega) 0 15 2 [(1, 8)] 1 0 t_c rfl S2c.out _ S2.out).mono ?_; rintro _ w3 ⟨A3, c3, rfl, hcc, hns, b⟩
  have HB := Lib.hid (below_on HB.out b)
  have S1 := Lib.hid (S1.out.on b)
  have XA := Lib.hid (XA.out.below b XA.out.lt)
  have S2 := Lib.hid (S2.out.on b)
  have XB := Lib.hid (XB.out.below b XB.out.lt)
  have S3c := Lib.hid hcc
  have S3 := Lib.hid (hns)
  clear b hcc hns
  have na := nb0 w3 (.cells #[.int .i64 2, .slice A3 1 c3] 24)
  have HB := Lib.hid (below_on HB.out na)
  have S1 := Lib.hid (S1.out.on na)
  have XA := Lib.hid (XA.out.below na XA.out.lt)
  have S2 := Lib.hid (S2.out.on na)
  have XB := Lib.hid (XB.out.below na XB.out.lt)
  have S3 := Lib.hid (S3.out.on na)
  have XC := Lib.hid (show Blk (w3.alloc (.cells #[.int .i64 2, .slice A3 1 c3] 24)) w3.heap.size 24 #[.int .i64 2, .slice A3 1 c3] from Blk.new_at _ _ _ rfl)
  clear na
  go_wp2_with fail
  refine (Use_k 2 A3 1 c3 [(1, 8)] rfl (by omega) 0 15 0 [] 0 210 t_h rfl S3c.out _ S3.out).mono ?_; rintro _ w4 ⟨A4, c4, rfl, hcc, hns, b⟩
  have HB := Lib.hid (below_on HB.out b)
  have S1 := Lib.hid (S1.out.on b)
  have XA := Lib.hid (XA.out.below b XA.out.lt)
  have S2 := Lib.hid (S2.out.on b)
  have XB := Lib.hid (XB.out.below b XB.out.lt)
  have S3 := Lib.hid (S3.out.on b)
  have XC := Lib.hid (XC.out.below b XC.out.lt)
  have S4c := Lib.hid hcc
  have S4 := Lib.hid (hns)
  clear b hcc hns
  have na := nb0 w4 (.cells #[.int .i64 0, .slice A4 0 c4] 24)
  have HB := Lib.hid (below_on HB.out na)
  have S1 := Lib.hid (S1.out.on na)
  have XA := Lib.hid (XA.out.below na XA.out.lt)
  have S2 := Lib.hid (S2.out.on na)
  have XB := Lib.hid (XB.out.below na XB.out.lt)
  have S3 := Lib.hid (S3.out.on na)
  have XC := Lib.hid (XC.out.below na XC.out.lt)
  have S4 := Lib.hid (S4.out.on na)
  have XD := Lib.hid (show Blk (w4.alloc (.cells #[.int .i64 0, .slice A4 0 c4] 24)) w4.heap.size 24 #[.int .i64 0, .slice A4 0 c4] from Blk.new_at _ _ _ rfl)
  clear na
  obtain ⟨⟨q0, q1⟩, q2, q3⟩ := XC.out.facts2
  go_wp2_with fail
  refine (Use_k 2 A3 1 c3 [(1, 8)] rfl (by omega) 1 9 0 [] 0 210 t_i rfl S3c.out _ S3.out).mono ?_; rintro _ w5 ⟨A5, c5, rfl, hcc, hns, b⟩
  have HB := Lib.hid (below_on HB.out b)
  have S1 := Lib.hid (S1.out.on b)
  have XA := Lib.hid (XA.out.below b XA.out.lt)
  have S2 := Lib.hid (S2.out.on b)
  have XB := Lib.hid (XB.out.below b XB.out.lt)
  have S3 := Lib.hid (S3.out.on b)
  have XC := Lib.hid (XC.out.below b XC.out.lt)
  have S4 := Lib.hid (S4.out.on b)
  have XD := Lib.hid (XD.out.below b XD.out.lt)
  have S5c := Lib.hid hcc
  have S5 := Lib.hid (hns)
  clear b hcc hns
  clear q0 q1 q2 q3
  have na := nb0 w5 (.cells #[.int .i64 0, .slice A5 0 c5] 24)
  have HB := Lib.hid (below_on HB.out na)
  have S1 := Lib.hid (S1.out.on na)
  have XA := Lib.hid (XA.out.below na XA.out.lt)
  have S2 := Lib.hid (S2.out.on na)
  have XB := Lib.hid (XB.out.below na XB.out.lt)
  have S3 := Lib.hid (S3.out.on na)
  have XC := Lib.hid (XC.out.below na XC.out.lt)
  have S4 := Lib.hid (S4.out.on na)
  have XD := Lib.hid (XD.out.below na XD.out.lt)
  have S5 := Lib.hid (S5.out.on na)
  have XE := Lib.hid (show Blk (w5.alloc (.cells #[.int .i64 0, .slice A5 0 c5] 24)) w5.heap.size 24 #[.int .i64 0, .slice A5 0 c5] from Blk.new_at _ _ _ rfl)
  clear na
  obtain ⟨⟨q0, q1⟩, q2, q3⟩ := XC.out.facts2
  go_wp2_with fail
  refine (Use_k 2 A3 1 c3 [(1, 8)] rfl (by omega) 1 8 2 [] 0 0 t_j rfl S3c.out _ S3.out).mono ?_; rintro _ w6 ⟨A6, c6, rfl, hcc, hns, b⟩
  have HB := Lib.hid (below_on HB.out b)
  have S1 := Lib.hid (S1.out.on b)
  have XA := Lib.hid (XA.out.below b XA.out.lt)
  have S2 := Lib.hid (S2.out.on b)
  have XB := Lib.hid (XB.out.below b XB.out.lt)
  have S3 := Lib.hid (S3.out.on b)
  have XC := Lib.hid (XC.out.below b XC.out.lt)
  have S4 := Lib.hid (S4.out.on b)
  have XD := Lib.hid (XD.out.below b XD.out.lt)
  have S5 := Lib.hid (S5.out.on b)
  have XE := Lib.hid (XE.out.below b XE.out.lt)
  have S6c := Lib.hid hcc
  have S6 := Lib.hid (hns)
  clear b hcc hns
  clear q0 q1 q2 q3
  have na := nb0 w6 (.cells #[.int .i64 2, .slice A6 0 c6] 24)
  have HB := Lib.hid (below_on HB.out na)
  have S1 := Lib.hid (S1.out.on na)
  have XA := Lib.hid (XA.out.below na XA.out.lt)
  have S2 := Lib.hid (S2.out.on na)
  have XB := Lib.hid (XB.out.below na XB.out.lt)
  have S3 := Lib.hid (S3.out.on na)
  have XC := Lib.hid (XC.out.below na XC.out.lt)
  have S4 := Lib.hid (S4.out.on na)
  have XD := Lib.hid (XD.out.below na XD.out.lt)
  have S5 := Lib.hid (S5.out.on na)
  have XE := Lib.hid (XE.out.below na XE.out.lt)
  have S6 := Lib.hid (S6.out.on na)
  have XF := Lib.hid (show Blk (w6.alloc (.cells #[.int .i64 2, .slice A6 0 c6] 24)) w6.heap.size 24 #[.int .i64 2, .slice A6 0 c6] from Blk.new_at _ _ _ rfl)
  clear na
  obtain ⟨⟨q0, q1⟩, q2, q3⟩ := XC.out.facts2
  go_wp2_with fail
  refine (Use_k 2 A3 1 c3 [(1, 8)] rfl (by omega) 2 8 0 [] 0 210 t_k rfl S3c.out _ S3.out).mono ?_; rintro _ w7 ⟨A7, c7, rfl, hcc, hns, b⟩
  have HB := Lib.hid (below_on HB.out b)
  have S1 := Lib.hid (S1.out.on b)
  have XA := Lib.hid (XA.out.below b XA.out.lt)
  have S2 := Lib.hid (S2.out.on b)
  have XB := Lib.hid (XB.out.below b XB.out.lt)
  have S3 := Lib.hid (S3.out.on b)
  have XC := Lib.hid (XC.out.below b XC.out.lt)
  have S4 := Lib.hid (S4.out.on b)
  have XD := Lib.hid (XD.out.below b XD.out.lt)
  have S5 := Lib.hid (S5.out.on b)
  have XE := Lib.hid (XE.out.below b XE.out.lt)
  have S6 := Lib.hid (S6.out.on b)
  have XF := Lib.hid (XF.out.below b XF.out.lt)
  have S7c := Lib.hid hcc
  have S7 := Lib.hid (hns)
  clear b hcc hns
  clear q0 q1 q2 q3
  have na := nb0 w7 (.cells #[.int .i64 0, .slice A7 0 c7] 24)
  have HB := Lib.hid (below_on HB.out na)
  have S1 := Lib.hid (S1.out.on na)
  have XA := Lib.hid (XA.out.below na XA.out.lt)
  have S2 := Lib.hid (S2.out.on na)
  have XB := Lib.hid (XB.out.below na XB.out.lt)
  have S3 := Lib.hid (S3.out.on na)
  have XC := Lib.hid (XC.out.below na XC.out.lt)
  have S4 := Lib.hid (S4.out.on na)
  have XD := Lib.hid (XD.out.below na XD.out.lt)
  have S5 := Lib.hid (S5.out.on na)
  have XE := Lib.hid (XE.out.below na XE.out.lt)
  have S6 := Lib.hid (S6.out.on na)
  have XF := Lib.hid (XF.out.below na XF.out.lt)
  have S7 := Lib.hid (S7.out.on na)
  have XG := Lib.hid (show Blk (w7.alloc (.cells #[.int .i64 0, .slice A7 0 c7] 24)) w7.heap.size 24 #[.int .i64 0, .slice A7 0 c7] from Blk.new_at _ _ _ rfl)
  clear na
  obtain ⟨⟨q0, q1⟩, q2, q3⟩ := XC.out.facts2
  go_wp2_with fail
  refine (Trim_k 2 A3 1 c3 [(1, 8)] rfl (by omega) 9 [] 0 t_t rfl _ S3.out).mono ?_; rintro _ w8 ⟨A8, c8, rfl, hcc, hns, b⟩
  have HB := Lib.hid (below_on HB.out b)
  have S1 := Lib.hid (S1.out.on b)
  have XA := Lib.hid (XA.out.below b XA.out.lt)
  have S2 := Lib.hid (S2.out.on b)
  have XB := Lib.hid (XB.out.below b XB.out.lt)
  have S3 := Lib.hid (S3.out.on b)
  have XC := Lib.hid (XC.out.below b XC.out.lt)
  have S4 := Lib.hid (S4.out.on b)
  have XD := Lib.hid (XD.out.below b XD.out.lt)
  have S5 := Lib.hid (S5.out.on b)
  have XE := Lib.hid (XE.out.below b XE.out.lt)
  have S6 := Lib.hid (S6.out.on b)
  have XF := Lib.hid (XF.out.below b XF.out.lt)
  have S7 := Lib.hid (S7.out.on b)
  have XG := Lib.hid (XG.out.below b XG.out.lt)
  have S8c := Lib.hid hcc
  have S8 := Lib.hid (hns)
  clear b hcc hns
  clear q0 q1 q2 q3
  obtain ⟨⟨q0, q1⟩, q2, q3⟩ := XC.out.facts2
  go_wp2_with fail
  refine (Check_k 2 A3 1 c3 [(1, 8)] rfl (by omega) 0 t_m _ S3.out).mono ?_; rintro _ w9 ⟨rfl, b⟩
  have HB := Lib.hid (below_on HB.out b)
  have S1 := Lib.hid (S1.out.on b)
  have XA := Lib.hid (XA.out.below b XA.out.lt)
  have S2 := Lib.hid (S2.out.on b)
  have XB := Lib.hid (XB.out.below b XB.out.lt)
  have S3 := Lib.hid (S3.out.on b)
  have XC := Lib.hid (XC.out.below b XC.out.lt)
  have S4 := Lib.hid (S4.out.on b)
  have XD := Lib.hid (XD.out.below b XD.out.lt)
  have S5 := Lib.hid (S5.out.on b)
  have XE := Lib.hid (XE.out.below b XE.out.lt)
  have S6 := Lib.hid (S6.out.on b)
  have XF := Lib.hid (XF.out.below b XF.out.lt)
  have S7 := Lib.hid (S7.out.on b)
  have XG := Lib.hid (XG.out.below b XG.out.lt)
  have S8 := Lib.hid (S8.out.on b)
  clear b
  clear q0 q1 q2 q3
  go_wp2_with fail
  refine (Check_k (-1) none 0 0 [] rfl (by omega) 1 t_n _ (NS.nil _ _ _)).mono ?_; rintro _ w10 ⟨rfl, b⟩
  have HB := Lib.hid (below_on HB.out b)
  have S1 := Lib.hid (S1.out.on b)
  have XA := Lib.hid (XA.out.below b XA.out.lt)
  have S2 := Lib.hid (S2.out.on b)
  have XB := Lib.hid (XB.out.below b XB.out.lt)
  have S3 := Lib.hid (S3.out.on b)
  have XC := Lib.hid (XC.out.below b XC.out.lt)
  have S4 := Lib.hid (S4.out.on b)
  have XD := Lib.hid (XD.out.below b XD.out.lt)
  have S5 := Lib.hid (S5.out.on b)
  have XE := Lib.hid (XE.out.below b XE.out.lt)
  have S6 := Lib.hid (S6.out.on b)
  have XF := Lib.hid (XF.out.below b XF.out.lt)
  have S7 := Lib.hid (S7.out.on b)
  have XG := Lib.hid (XG.out.below b XG.out.lt)
  have S8 := Lib.hid (S8.out.on b)
  clear b
  go_wp2_with fail
  go_ret
  exact ⟨rfl, HB.out⟩
end Go.Proofs.Ytdiafbeohldbjaa

/- The walk of NonceSteps. (Printed by tools/gen_nonce_laws.py.) -/
import Derived.Test.YtdiafbeohldbjaaNonceLive
import Derived.Test.YtdiafbeohldbjaaNonceLaw
namespace Go.Proofs.Ytdiafbeohldbjaa
open Go.ChangeShapes Go.WideShapes Go.ChangeAt Go.RowKit Gs
set_option linter.unusedVariables false
set_option linter.unusedSimpArgs false

set_option maxRecDepth 100000 in
set_option maxHeartbeats 8000000 in
theorem steps_walk21 (nx : Int) (A : Option Addr) (n c : Nat) (L : List (Int × Int)) (hn : L.length = n) (m now life : Int) (W : World) (hs : NS W W.heap.size A L) (hc : n ≤ c) (hm : c ≤ maxLen) :
    Calls Try.prog 4 #[fv nx A n c, .int .i64 m, .int .i64 now, .int .i64 life] W fun e w' => e = .returned (.bool true) ∧ Below W.heap.size W w' := by
  have hs0 := Lib.hid hs
  have hmx := Lib.hid (show n ≤ maxLen by omega)
  have hcap := Lib.hid (And.intro hc hm)
  have HN := Lib.hid hn
  clear hs hn
  by_cases h100 : n ≤ 100
  rotate_left 1
  · have h100d := Lib.hid (decide_eq_false h100)
    go_enter Try.func4, Try.ntmps4
    go_wp2_with fail
    have HB := Lib.hid (Below.refl W.heap.size W)
    have S0 := Lib.hid (hs0.out)
    have na := nb0 W (.cells #[.int .i64 nx, .slice A n c] 24)
    have HB := Lib.hid (below_on HB.out na)
    have S0 := Lib.hid (S0.out.on na)
    have X0 := Lib.hid (show Blk (W.alloc (.cells #[.int .i64 nx, .slice A n c] 24)) W.heap.size 24 #[.int .i64 nx, .slice A n c] from Blk.new_at _ _ _ rfl)
    clear na
    have LW := Lib.hid X0.out.lt
    refine (live21 _).mono ?_; rintro _ w1 ⟨rfl, b⟩
    have HB := Lib.hid (below_on HB.out b)
    have S0 := Lib.hid (S0.out.on b)
    have X0 := Lib.hid (X0.out.below b X0.out.lt)
    have LW := Lib.hid (lt_on LW.out b)
    clear b
    obtain ⟨⟨q0, q1⟩, q2, q3⟩ := X0.out.facts2
    go_wp2_with fail
    refine (Few_n nx A n c hmx.out _).mono ?_; rintro _ w2 ⟨rfl, b⟩
    have HB := Lib.hid (below_on HB.out b)
    have S0 := Lib.hid (S0.out.on b)
    have X0 := Lib.hid (X0.out.below b X0.out.lt)
    have LW := Lib.hid (lt_on LW.out b)
    clear b
    rw [h100d.out]
    clear q0 q1 q2 q3
    go_wp2_with fail
    go_ret
    exact ⟨rfl, HB.out⟩
  have h100d := Lib.hid (decide_eq_true h100)
  have hl : n ≤ 1048576 := by omega
  clear hm
  obtain ⟨nx1, L1, k1, e1, ht⟩ : ∃ nx1 L1 k1 e1, tellF nx L now life = (nx1, L1, k1, e1) := ⟨_, _, _, _, rfl⟩
  obtain ⟨nx2, L2, e2, hu⟩ : ∃ nx2 L2 e2, useF nx L m now = (nx2, L2, e2) := ⟨_, _, _, rfl⟩
  obtain ⟨n1, hn1⟩ : ∃ n1, L1.length = n1 := ⟨_, rfl⟩
  obtain ⟨n2, hn2⟩ : ∃ n2, L2.length = n2 := ⟨_, rfl⟩
  have hl1 : n1 ≤ 1048576 := by have := tell_len ht; rw [hn1, HN.out] at this; omega
  have hl2 : n2 ≤ 1048576 := by have := use_len hu; rw [hn2, HN.out] at this; omega
  have P1 := Lib.hid (fun W hs => Tell_k nx A n c L HN.out hl now life nx1 L1 n1 k1 e1 ht hn1 W hs)
  have P2 := Lib.hid (fun W hs => refTell_k nx A n c L HN.out hl now life nx1 L1 n1 k1 e1 ht hn1 W hs)
  have P3 := Lib.hid (fun W hs => Use_k nx A n c L HN.out hl m now nx2 L2 n2 e2 hu hn2 hcap.out W hs)
  have P4 := Lib.hid (fun W hs => refUse_k nx A n c L HN.out hl m now nx2 L2 n2 e2 hu hn2 W hs)
  have P5 := Lib.hid (fun B1 d1 B2 d2 W hs hs' => Same_k nx1 B1 n1 d1 L1 hn1 hl1 B2 d2 W hs hs')
  have P6 := Lib.hid (fun B1 d1 B2 d2 W hs hs' => Same_k nx2 B1 n2 d1 L2 hn2 hl2 B2 d2 W hs hs')
  clear ht hu hn1 hn2
  go_enter Try.func4, Try.ntmps4
  go_wp2_with fail
  have HB := Lib.hid (Below.refl W.heap.size W)
  have S0 := Lib.hid (hs0.out)
  have na := nb0 W (.cells #[.int .i64 nx, .slice A n c] 24)
  have HB := Lib.hid (below_on HB.out na)
  have S0 := Lib.hid (S0.out.on na)
  have X0 := Lib.hid (show Blk (W.alloc (.cells #[.int .i64 nx, .slice A n c] 24)) W.heap.size 24 #[.int .i64 nx, .slice A n c] from Blk.new_at _ _ _ rfl)
  clear na
  have LW := Lib.hid X0.out.lt
  refine (live21 _).mono ?_; rintro _ w3 ⟨rfl, b⟩
  have HB := Lib.hid (below_on HB.out b)
  have S0 := Lib.hid (S0.out.on b)
  have X0 := Lib.hid (X0.out.below b X0.out.lt)
  have LW := Lib.hid (lt_on LW.out b)
  clear b
  obtain ⟨⟨q0, q1⟩, q2, q3⟩ := X0.out.facts2
  go_wp2_with fail
  refine (Few_n nx A n c hmx.out _).mono ?_; rintro _ w4 ⟨rfl, b⟩
  have HB := Lib.hid (below_on HB.out b)
  have S0 := Lib.hid (S0.out.on b)
  have X0 := Lib.hid (X0.out.below b X0.out.lt)
  have LW := Lib.hid (lt_on LW.out b)
  clear b
  rw [h100d.out]
  clear q0 q1 q2 q3
  obtain ⟨⟨q0, q1⟩, q2, q3⟩ := X0.out.facts2
  go_wp2_with fail
  refine (P1.out _ S0.out).mono ?_; rintro _ w5 ⟨B1, d1, rfl, hcc, hns, b⟩
  have HB := Lib.hid (below_on HB.out b)
  have S0 := Lib.hid (S0.out.on b)
  have X0 := Lib.hid (X0.out.below b X0.out.lt)
  have LW := Lib.hid (lt_on LW.out b)
  have T1c := Lib.hid hcc
  have T1 := Lib.hid (hns)
  clear b hcc hns
  clear q0 q1 q2 q3
  have na := nb0 w5 (.cells #[.int .i64 nx1, .slice B1 n1 d1] 24)
  have HB := Lib.hid (below_on HB.out na)
  have S0 := Lib.hid (S0.out.on na)
  have X0 := Lib.hid (X0.out.below na X0.out.lt)
  have LW := Lib.hid (lt_on LW.out na)
  have T1 := Lib.hid (T1.out.on na)
  have Y1 := Lib.hid (show Blk (w5.alloc (.cells #[.int .i64 nx1, .slice B1 n1 d1] 24)) w5.heap.size 24 #[.int .i64 nx1, .slice B1 n1 d1] from Blk.new_at _ _ _ rfl)
  clear na
  obtain ⟨⟨q0, q1⟩, q2, q3⟩ := X0.out.facts2
  go_wp2_with fail
  refine (P2.out _ S0.out).mono ?_; rintro _ w6 ⟨B2, d2, rfl, hcc, hns, b⟩
  have HB := Lib.hid (below_on HB.out b)
  have S0 := Lib.hid (S0.out.on b)
  have X0 := Lib.hid (X0.out.below b X0.out.lt)
  have LW := Lib.hid (lt_on LW.out b)
  have T1 := Lib.hid (T1.out.on b)
  have Y1 := Lib.hid (Y1.out.below b Y1.out.lt)
  have T2c := Lib.hid hcc
  have T2 := Lib.hid (hns)
  clear b hcc hns
  clear q0 q1 q2 q3
  have na := nb0 w6 (.cells #[.int .i64 nx1, .slice B2 n1 d2] 24)
  have HB := Lib.hid (below_on HB.out na)
  have S0 := Lib.hid (S0.out.on na)
  have X0 := Lib.hid (X0.out.below na X0.out.lt)
  have LW := Lib.hid (lt_on LW.out na)
  have T1 := Lib.hid (T1.out.on na)
  have Y1 := Lib.hid (Y1.out.below na Y1.out.lt)
  have T2 := Lib.hid (T2.out.on na)
  have Y2 := Lib.hid (show Blk (w6.alloc (.cells #[.int .i64 nx1, .slice B2 n1 d2] 24)) w6.heap.size 24 #[.int .i64 nx1, .slice B2 n1 d2] from Blk.new_at _ _ _ rfl)
  clear na
  obtain ⟨⟨q0, q1⟩, q2, q3⟩ := X0.out.facts2
  go_wp2_with fail
  refine (P3.out _ S0.out).mono ?_; rintro _ w7 ⟨B3, d3, rfl, hcc, hns, b⟩
  have HB := Lib.hid (below_on HB.out b)
  have S0 := Lib.hid (S0.out.on b)
  have X0 := Lib.hid (X0.out.below b X0.out.lt)
  have LW := Lib.hid (lt_on LW.out b)
  have T1 := Lib.hid (T1.out.on b)
  have Y1 := Lib.hid (Y1.out.below b Y1.out.lt)
  have T2 := Lib.hid (T2.out.on b)
  have Y2 := Lib.hid (Y2.out.below b Y2.out.lt)
  have T3c := Lib.hid hcc
  have T3 := Lib.hid (hns)
  clear b hcc hns
  clear q0 q1 q2 q3
  have na := nb0 w7 (.cells #[.int .i64 nx2, .slice B3 n2 d3] 24)
  have HB := Lib.hid (below_on HB.out na)
  have S0 := Lib.hid (S0.out.on na)
  have X0 := Lib.hid (X0.out.below na X0.out.lt)
  have LW := Lib.hid (lt_on LW.out na)
  have T1 := Lib.hid (T1.out.on na)
  have Y1 := Lib.hid (Y1.out.below na Y1.out.lt)
  have T2 := Lib.hid (T2.out.on na)
  have Y2 := Lib.hid (Y2.out.below na Y2.out.lt)
  have T3 := Lib.hid (T3.out.on na)
  have Y3 := Lib.hid (show Blk (w7.alloc (.cells #[.int .i64 nx2, .slice B3 n2 d3] 24)) w7.heap.size 24 #[.int .i64 nx2, .slice B3 n2 d3] from Blk.new_at _ _ _ rfl)
  clear na
  obtain ⟨⟨q0, q1⟩, q2, q3⟩ := X0.out.facts2
  go_wp2_with fail
  refine (P4.out _ S0.out).mono ?_; rintro _ w8 ⟨B4, d4, rfl, hcc, hns, b⟩
  have HB := Lib.hid (below_on HB.out b)
  have S0 := Lib.hid (S0.out.on b)
  have X0 := Lib.hid (X0.out.below b X0.out.lt)
  have LW := Lib.hid (lt_on LW.out b)
  have T1 := Lib.hid (T1.out.on b)
  have Y1 := Lib.hid (Y1.out.below b Y1.out.lt)
  have T2 := Lib.hid (T2.out.on b)
  have Y2 := Lib.hid (Y2.out.below b Y2.out.lt)
  have T3 := Lib.hid (T3.out.on b)
  have Y3 := Lib.hid (Y3.out.below b Y3.out.lt)
  have T4c := Lib.hid hcc
  have T4 := Lib.hid (hns)
  clear b hcc hns
  clear q0 q1 q2 q3
  have na := nb0 w8 (.cells #[.int .i64 nx2, .slice B4 n2 d4] 24)
  have HB := Lib.hid (below_on HB.out na)
  have S0 := Lib.hid (S0.out.on na)
  have X0 := Lib.hid (X0.out.below na X0.out.lt)
  have LW := Lib.hid (lt_on LW.out na)
  have T1 := Lib.hid (T1.out.on na)
  have Y1 := Lib.hid (Y1.out.below na Y1.out.lt)
  have T2 := Lib.hid (T2.out.on na)
  have Y2 := Lib.hid (Y2.out.below na Y2.out.lt)
  have T3 := Lib.hid (T3.out.on na)
  have Y3 := Lib.hid (Y3.out.below na Y3.out.lt)
  have T4 := Lib.hid (T4.out.on na)
  have Y4 := Lib.hid (show Blk (w8.alloc (.cells #[.int .i64 nx2, .slice B4 n2 d4] 24)) w8.heap.size 24 #[.int .i64 nx2, .slice B4 n2 d4] from Blk.new_at _ _ _ rfl)
  clear na
  obtain ⟨⟨q0, q1⟩, q2, q3⟩ := Y1.out.facts2
  obtain ⟨⟨r0, r1⟩, r2, r3⟩ := Y2.out.facts2
  obtain ⟨⟨s0, s1⟩, s2, s3⟩ := Y3.out.facts2
  obtain ⟨⟨t0, t1⟩, t2, t3⟩ := Y4.out.facts2
  go_wp2_with fail
  refine (P5.out _ _ _ _ _ T1.out T2.out).mono ?_; rintro _ w9 ⟨rfl, b⟩
  have HB := Lib.hid (below_on HB.out b)
  have S0 := Lib.hid (S0.out.on b)
  have X0 := Lib.hid (X0.out.below b X0.out.lt)
  have LW := Lib.hid (lt_on LW.out b)
  have T1 := Lib.hid (T1.out.on b)
  have Y1 := Lib.hid (Y1.out.below b Y1.out.lt)
  have T2 := Lib.hid (T2.out.on b)
  have Y2 := Lib.hid (Y2.out.below b Y2.out.lt)
  have T3 := Lib.hid (T3.out.on b)
  have Y3 := Lib.hid (Y3.out.below b Y3.out.lt)
  have T4 := Lib.hid (T4.out.on b)
  have Y4 := Lib.hid (Y4.out.below b Y4.out.lt)
  clear b
  clear q0 q1 q2 q3
  clear r0 r1 r2 r3
  clear s0 s1 s2 s3
  clear t0 t1 t2 t3
  obtain ⟨⟨s0, s1⟩, s2, s3⟩ := Y3.out.facts2
  obtain ⟨⟨t0, t1⟩, t2, t3⟩ := Y4.out.facts2
  go_wp2_with fail
  refine (P6.out _ _ _ _ _ T3.out T4.out).mono ?_; rintro _ w10 ⟨rfl, b⟩
  have HB := Lib.hid (below_on HB.out b)
  have S0 := Lib.hid (S0.out.on b)
  have X0 := Lib.hid (X0.out.below b X0.out.lt)
  have LW := Lib.hid (lt_on LW.out b)
  have T1 := Lib.hid (T1.out.on b)
  have Y1 := Lib.hid (Y1.out.below b Y1.out.lt)
  have T2 := Lib.hid (T2.out.on b)
  have Y2 := Lib.hid (Y2.out.below b Y2.out.lt)
  have T3 := Lib.hid (T3.out.on b)
  have Y3 := Lib.hid (Y3.out.below b Y3.out.lt)
  have T4 := Lib.hid (T4.out.on b)
  have Y4 := Lib.hid (Y4.out.below b Y4.out.lt)
  clear b
  go_wp2_with fail
  go_ret
  exact ⟨rfl, HB.out⟩
end Go.Proofs.Ytdiafbeohldbjaa

/- The walk of NonceBoth. (Printed by tools/gen_nonce_laws.py.) -/
import Derived.Test.YtdiafbeohldbjaaNonceLive
import Derived.Test.YtdiafbeohldbjaaNonceLaw
namespace Go.Proofs.Ytdiafbeohldbjaa
open Go.ChangeShapes Go.WideShapes Go.ChangeAt Go.RowKit Gs
set_option linter.unusedVariables false
set_option linter.unusedSimpArgs false

set_option maxRecDepth 100000 in
set_option maxHeartbeats 8000000 in
theorem both_walk21 (nx : Int) (A : Option Addr) (n c : Nat) (L : List (Int × Int)) (hn : L.length = n) (m m2 now : Int) (W : World) (hs : NS W W.heap.size A L) (hc : n ≤ c) (hm : c ≤ maxLen) :
    Calls Try.prog 10 #[fv nx A n c, .int .i64 m, .int .i64 m2, .int .i64 now] W fun e w' => e = .returned (.bool true) ∧ Below W.heap.size W w' := by
  have hs0 := Lib.hid hs
  have hmx := Lib.hid (show n ≤ maxLen by omega)
  have hcap := Lib.hid (And.intro hc hm)
  have HN := Lib.hid hn
  clear hs hn
  by_cases h100 : n ≤ 100
  rotate_left 1
  · have h100d := Lib.hid (decide_eq_false h100)
    go_enter Try.func10, Try.ntmps10
    go_wp2_with fail
    have HB := Lib.hid (Below.refl W.heap.size W)
    have S0 := Lib.hid (hs0.out)
    have na := nb0 W (.cells #[.int .i64 nx, .slice A n c] 24)
    have HB := Lib.hid (below_on HB.out na)
    have S0 := Lib.hid (S0.out.on na)
    have X0 := Lib.hid (show Blk (W.alloc (.cells #[.int .i64 nx, .slice A n c] 24)) W.heap.size 24 #[.int .i64 nx, .slice A n c] from Blk.new_at _ _ _ rfl)
    clear na
    have LW := Lib.hid X0.out.lt
    refine (live21 _).mono ?_; rintro _ w1 ⟨rfl, b⟩
    have HB := Lib.hid (below_on HB.out b)
    have S0 := Lib.hid (S0.out.on b)
    have X0 := Lib.hid (X0.out.below b X0.out.lt)
    have LW := Lib.hid (lt_on LW.out b)
    clear b
    obtain ⟨⟨q0, q1⟩, q2, q3⟩ := X0.out.facts2
    go_wp2_with fail
    refine (Few_n nx A n c hmx.out _).mono ?_; rintro _ w2 ⟨rfl, b⟩
    have HB := Lib.hid (below_on HB.out b)
    have S0 := Lib.hid (S0.out.on b)
    have X0 := Lib.hid (X0.out.below b X0.out.lt)
    have LW := Lib.hid (lt_on LW.out b)
    clear b
    rw [h100d.out]
    clear q0 q1 q2 q3
    go_wp2_with fail
    go_ret
    exact ⟨rfl, HB.out⟩
  have h100d := Lib.hid (decide_eq_true h100)
  have hl : n ≤ 1048576 := by omega
  clear hm
  rcases use_cases nx L m now with ⟨hk, hn, hg, hu⟩ | ⟨e, he, hu⟩
  rotate_left 1
  · obtain ⟨nx2, L2, e2, hu2⟩ : ∃ nx2 L2 e2, useF nx L m2 now = (nx2, L2, e2) := ⟨_, _, _, rfl⟩
    obtain ⟨u2, hL2⟩ : ∃ u2, L2.length = u2 := ⟨_, rfl⟩
    have hl2 : u2 ≤ 1048576 := by have := use_len hu2; rw [hL2, HN.out] at this; omega
    have hz : (e2 == 0) = false → u2 = 0 := fun h => by rcases use_cases nx L m2 now with ⟨_, _, _, g⟩ | ⟨_, _, g⟩ <;> rw [g] at hu2 <;> injection hu2 with a b <;> injection b with b c <;> subst b c <;> first | (simp at h; done) | (simpa using hL2.symm)
    obtain ⟨nx3, L3, e3, hu3⟩ : ∃ nx3 L3 e3, useF 0 [] m2 now = (nx3, L3, e3) := ⟨_, _, _, rfl⟩
    obtain ⟨nx4, L4, e4, hu4⟩ : ∃ nx4 L4 e4, useF nx2 L2 m now = (nx4, L4, e4) := ⟨_, _, _, rfl⟩
    have P1 := Lib.hid (fun W hs => Use_k nx A n c L HN.out hl m now 0 [] 0 e hu rfl hcap.out W hs)
    have P2 := Lib.hid (fun W hs => Use_k nx A n c L HN.out hl m2 now nx2 L2 u2 e2 hu2 hL2 hcap.out W hs)
    have P3 := Lib.hid (fun B d hcd W hs => Use_k 0 B 0 d [] rfl (by omega) m2 now nx3 L3 _ e3 hu3 rfl hcd W hs)
    have P4 := Lib.hid (fun B d hcd W hs => Use_k nx2 B u2 d L2 hL2 hl2 m now nx4 L4 _ e4 hu4 rfl hcd W hs)
    generalize L3.length = u3 at P3
    generalize L4.length = u4 at P4
    have g0 : (e == 0) = false := by simpa using he
    have g1 : (e != 0) = true := by simpa using he
    have HZ := Lib.hid hz
    clear hu hu2 hu3 hu4 hL2 he hz
    cases h2 : (e2 == 0)
    · obtain rfl := HZ.out h2
      go_enter Try.func10, Try.ntmps10
      go_wp2_with fail
      have HB := Lib.hid (Below.refl W.heap.size W)
      have S0 := Lib.hid (hs0.out)
      have na := nb0 W (.cells #[.int .i64 nx, .slice A n c] 24)
      have HB := Lib.hid (below_on HB.out na)
      have S0 := Lib.hid (S0.out.on na)
      have X0 := Lib.hid (show Blk (W.alloc (.cells #[.int .i64 nx, .slice A n c] 24)) W.heap.size 24 #[.int .i64 nx, .slice A n c] from Blk.new_at _ _ _ rfl)
      clear na
      have LW := Lib.hid X0.out.lt
      refine (live21 _).mono ?_; rintro _ w3 ⟨rfl, b⟩
      have HB := Lib.hid (below_on HB.out b)
      have S0 := Lib.hid (S0.out.on b)
      have X0 := Lib.hid (X0.out.below b X0.out.lt)
      have LW := Lib.hid (lt_on LW.out b)
      clear b
      obtain ⟨⟨q0, q1⟩, q2, q3⟩ := X0.out.facts2
      go_wp2_with fail
      refine (Few_n nx A n c hmx.out _).mono ?_; rintro _ w4 ⟨rfl, b⟩
      have HB := Lib.hid (below_on HB.out b)
      have S0 := Lib.hid (S0.out.on b)
      have X0 := Lib.hid (X0.out.below b X0.out.lt)
      have LW := Lib.hid (lt_on LW.out b)
      clear b
      rw [h100d.out]
      clear q0 q1 q2 q3
      obtain ⟨⟨q0, q1⟩, q2, q3⟩ := X0.out.facts2
      go_wp2_with fail
      refine (P1.out _ S0.out).mono ?_; rintro _ w5 ⟨B1, d1, rfl, hcc, hns, b⟩
      have HB := Lib.hid (below_on HB.out b)
      have S0 := Lib.hid (S0.out.on b)
      have X0 := Lib.hid (X0.out.below b X0.out.lt)
      have LW := Lib.hid (lt_on LW.out b)
      have T1c := Lib.hid hcc
      have T1 := Lib.hid (hns)
      clear b hcc hns
      clear q0 q1 q2 q3
      have na := nb0 w5 (.cells #[.int .i64 0, .slice B1 0 d1] 24)
      have HB := Lib.hid (below_on HB.out na)
      have S0 := Lib.hid (S0.out.on na)
      have X0 := Lib.hid (X0.out.below na X0.out.lt)
      have LW := Lib.hid (lt_on LW.out na)
      have T1 := Lib.hid (T1.out.on na)
      have Y1 := Lib.hid (show Blk (w5.alloc (.cells #[.int .i64 0, .slice B1 0 d1] 24)) w5.heap.size 24 #[.int .i64 0, .slice B1 0 d1] from Blk.new_at _ _ _ rfl)
      clear na
      obtain ⟨⟨q0, q1⟩, q2, q3⟩ := X0.out.facts2
      go_wp2_with fail
      refine (P2.out _ S0.out).mono ?_; rintro _ w6 ⟨B2, d2, rfl, hcc, hns, b⟩
      have HB := Lib.hid (below_on HB.out b)
      have S0 := Lib.hid (S0.out.on b)
      have X0 := Lib.hid (X0.out.below b X0.out.lt)
      have LW := Lib.hid (lt_on LW.out b)
      have T1 := Lib.hid (T1.out.on b)
      have Y1 := Lib.hid (Y1.out.below b Y1.out.lt)
      have T2c := Lib.hid hcc
      have T2 := Lib.hid (hns)
      clear b hcc hns
      clear q0 q1 q2 q3
      have na := nb0 w6 (.cells #[.int .i64 nx2, .slice B2 0 d2] 24)
      have HB := Lib.hid (below_on HB.out na)
      have S0 := Lib.hid (S0.out.on na)
      have X0 := Lib.hid (X0.out.below na X0.out.lt)
      have LW := Lib.hid (lt_on LW.out na)
      have T1 := Lib.hid (T1.out.on na)
      have Y1 := Lib.hid (Y1.out.below na Y1.out.lt)
      have T2 := Lib.hid (T2.out.on na)
      have Y2 := Lib.hid (show Blk (w6.alloc (.cells #[.int .i64 nx2, .slice B2 0 d2] 24)) w6.heap.size 24 #[.int .i64 nx2, .slice B2 0 d2] from Blk.new_at _ _ _ rfl)
      clear na
      obtain ⟨⟨q0, q1⟩, q2, q3⟩ := Y1.out.facts2
      go_wp2_with fail
      refine (P3.out _ _ T1c.out _ T1.out).mono ?_; rintro _ w7 ⟨B3, d3, rfl, hcc, hns, b⟩
      have HB := Lib.hid (below_on HB.out b)
      have S0 := Lib.hid (S0.out.on b)
      have X0 := Lib.hid (X0.out.below b X0.out.lt)
      have LW := Lib.hid (lt_on LW.out b)
      have T1 := Lib.hid (T1.out.on b)
      have Y1 := Lib.hid (Y1.out.below b Y1.out.lt)
      have T2 := Lib.hid (T2.out.on b)
      have Y2 := Lib.hid (Y2.out.below b Y2.out.lt)
      have T3c := Lib.hid hcc
      have T3 := Lib.hid (hns)
      clear b hcc hns
      clear q0 q1 q2 q3
      have na := nb0 w7 (.cells #[.int .i64 nx3, .slice B3 u3 d3] 24)
      have HB := Lib.hid (below_on HB.out na)
      have S0 := Lib.hid (S0.out.on na)
      have X0 := Lib.hid (X0.out.below na X0.out.lt)
      have LW := Lib.hid (lt_on LW.out na)
      have T1 := Lib.hid (T1.out.on na)
      have Y1 := Lib.hid (Y1.out.below na Y1.out.lt)
      have T2 := Lib.hid (T2.out.on na)
      have Y2 := Lib.hid (Y2.out.below na Y2.out.lt)
      have T3 := Lib.hid (T3.out.on na)
      have Y3 := Lib.hid (show Blk (w7.alloc (.cells #[.int .i64 nx3, .slice B3 u3 d3] 24)) w7.heap.size 24 #[.int .i64 nx3, .slice B3 u3 d3] from Blk.new_at _ _ _ rfl)
      clear na
      obtain ⟨⟨q0, q1⟩, q2, q3⟩ := Y2.out.facts2
      go_wp2_with fail
      refine (P4.out _ _ T2c.out _ T2.out).mono ?_; rintro _ w8 ⟨B4, d4, rfl, hcc, hns, b⟩
      have HB := Lib.hid (below_on HB.out b)
      have S0 := Lib.hid (S0.out.on b)
      have X0 := Lib.hid (X0.out.below b X0.out.lt)
      have LW := Lib.hid (lt_on LW.out b)
      have T1 := Lib.hid (T1.out.on b)
      have Y1 := Lib.hid (Y1.out.below b Y1.out.lt)
      have T2 := Lib.hid (T2.out.on b)
      have Y2 := Lib.hid (Y2.out.below b Y2.out.lt)
      have T3 := Lib.hid (T3.out.on b)
      have Y3 := Lib.hid (Y3.out.below b Y3.out.lt)
      have T4c := Lib.hid hcc
      have T4 := Lib.hid (hns)
      clear b hcc hns
      clear q0 q1 q2 q3
      have na := nb0 w8 (.cells #[.int .i64 nx4, .slice B4 u4 d4] 24)
      have HB := Lib.hid (below_on HB.out na)
      have S0 := Lib.hid (S0.out.on na)
      have X0 := Lib.hid (X0.out.below na X0.out.lt)
      have LW := Lib.hid (lt_on LW.out na)
      have T1 := Lib.hid (T1.out.on na)
      have Y1 := Lib.hid (Y1.out.below na Y1.out.lt)
      have T2 := Lib.hid (T2.out.on na)
      have Y2 := Lib.hid (Y2.out.below na Y2.out.lt)
      have T3 := Lib.hid (T3.out.on na)
      have Y3 := Lib.hid (Y3.out.below na Y3.out.lt)
      have T4 := Lib.hid (T4.out.on na)
      have Y4 := Lib.hid (show Blk (w8.alloc (.cells #[.int .i64 nx4, .slice B4 u4 d4] 24)) w8.heap.size 24 #[.int .i64 nx4, .slice B4 u4 d4] from Blk.new_at _ _ _ rfl)
      clear na
      obtain ⟨⟨q0, q1⟩, q2, q3⟩ := Y1.out.facts2
      obtain ⟨⟨r0, r1⟩, r2, r3⟩ := Y2.out.facts2
      go_wp2_with fail
      go_ret
      exact ⟨by first | rfl | simp, HB.out⟩
    · clear HZ
      go_enter Try.func10, Try.ntmps10
      go_wp2_with fail
      have HB := Lib.hid (Below.refl W.heap.size W)
      have S0 := Lib.hid (hs0.out)
      have na := nb0 W (.cells #[.int .i64 nx, .slice A n c] 24)
      have HB := Lib.hid (below_on HB.out na)
      have S0 := Lib.hid (S0.out.on na)
      have X0 := Lib.hid (show Blk (W.alloc (.cells #[.int .i64 nx, .slice A n c] 24)) W.heap.size 24 #[.int .i64 nx, .slice A n c] from Blk.new_at _ _ _ rfl)
      clear na
      have LW := Lib.hid X0.out.lt
      refine (live21 _).mono ?_; rintro _ w9 ⟨rfl, b⟩
      have HB := Lib.hid (below_on HB.out b)
      have S0 := Lib.hid (S0.out.on b)
      have X0 := Lib.hid (X0.out.below b X0.out.lt)
      have LW := Lib.hid (lt_on LW.out b)
      clear b
      obtain ⟨⟨q0, q1⟩, q2, q3⟩ := X0.out.facts2
      go_wp2_with fail
      refine (Few_n nx A n c hmx.out _).mono ?_; rintro _ w10 ⟨rfl, b⟩
      have HB := Lib.hid (below_on HB.out b)
      have S0 := Lib.hid (S0.out.on b)
      have X0 := Lib.hid (X0.out.below b X0.out.lt)
      have LW := Lib.hid (lt_on LW.out b)
      clear b
      rw [h100d.out]
      clear q0 q1 q2 q3
      obtain ⟨⟨q0, q1⟩, q2, q3⟩ := X0.out.facts2
      go_wp2_with fail
      refine (P1.out _ S0.out).mono ?_; rintro _ w11 ⟨B1, d1, rfl, hcc, hns, b⟩
      have HB := Lib.hid (below_on HB.out b)
      have S0 := Lib.hid (S0.out.on b)
      have X0 := Lib.hid (X0.out.below b X0.out.lt)
      have LW := Lib.hid (lt_on LW.out b)
      have T1c := Lib.hid hcc
      have T1 := Lib.hid (hns)
      clear b hcc hns
      clear q0 q1 q2 q3
      have na := nb0 w11 (.cells #[.int .i64 0, .slice B1 0 d1] 24)
      have HB := Lib.hid (below_on HB.out na)
      have S0 := Lib.hid (S0.out.on na)
      have X0 := Lib.hid (X0.out.below na X0.out.lt)
      have LW := Lib.hid (lt_on LW.out na)
      have T1 := Lib.hid (T1.out.on na)
      have Y1 := Lib.hid (show Blk (w11.alloc (.cells #[.int .i64 0, .slice B1 0 d1] 24)) w11.heap.size 24 #[.int .i64 0, .slice B1 0 d1] from Blk.new_at _ _ _ rfl)
      clear na
      obtain ⟨⟨q0, q1⟩, q2, q3⟩ := X0.out.facts2
      go_wp2_with fail
      refine (P2.out _ S0.out).mono ?_; rintro _ w12 ⟨B2, d2, rfl, hcc, hns, b⟩
      have HB := Lib.hid (below_on HB.out b)
      have S0 := Lib.hid (S0.out.on b)
      have X0 := Lib.hid (X0.out.below b X0.out.lt)
      have LW := Lib.hid (lt_on LW.out b)
      have T1 := Lib.hid (T1.out.on b)
      have Y1 := Lib.hid (Y1.out.below b Y1.out.lt)
      have T2c := Lib.hid hcc
      have T2 := Lib.hid (hns)
      clear b hcc hns
      clear q0 q1 q2 q3
      have na := nb0 w12 (.cells #[.int .i64 nx2, .slice B2 u2 d2] 24)
      have HB := Lib.hid (below_on HB.out na)
      have S0 := Lib.hid (S0.out.on na)
      have X0 := Lib.hid (X0.out.below na X0.out.lt)
      have LW := Lib.hid (lt_on LW.out na)
      have T1 := Lib.hid (T1.out.on na)
      have Y1 := Lib.hid (Y1.out.below na Y1.out.lt)
      have T2 := Lib.hid (T2.out.on na)
      have Y2 := Lib.hid (show Blk (w12.alloc (.cells #[.int .i64 nx2, .slice B2 u2 d2] 24)) w12.heap.size 24 #[.int .i64 nx2, .slice B2 u2 d2] from Blk.new_at _ _ _ rfl)
      clear na
      obtain ⟨⟨q0, q1⟩, q2, q3⟩ := Y1.out.facts2
      go_wp2_with fail
      refine (P3.out _ _ T1c.out _ T1.out).mono ?_; rintro _ w13 ⟨B3, d3, rfl, hcc, hns, b⟩
      have HB := Lib.hid (below_on HB.out b)
      have S0 := Lib.hid (S0.out.on b)
      have X0 := Lib.hid (X0.out.below b X0.out.lt)
      have LW := Lib.hid (lt_on LW.out b)
      have T1 := Lib.hid (T1.out.on b)
      have Y1 := Lib.hid (Y1.out.below b Y1.out.lt)
      have T2 := Lib.hid (T2.out.on b)
      have Y2 := Lib.hid (Y2.out.below b Y2.out.lt)
      have T3c := Lib.hid hcc
      have T3 := Lib.hid (hns)
      clear b hcc hns
      clear q0 q1 q2 q3
      have na := nb0 w13 (.cells #[.int .i64 nx3, .slice B3 u3 d3] 24)
      have HB := Lib.hid (below_on HB.out na)
      have S0 := Lib.hid (S0.out.on na)
      have X0 := Lib.hid (X0.out.below na X0.out.lt)
      have LW := Lib.hid (lt_on LW.out na)
      have T1 := Lib.hid (T1.out.on na)
      have Y1 := Lib.hid (Y1.out.below na Y1.out.lt)
      have T2 := Lib.hid (T2.out.on na)
      have Y2 := Lib.hid (Y2.out.below na Y2.out.lt)
      have T3 := Lib.hid (T3.out.on na)
      have Y3 := Lib.hid (show Blk (w13.alloc (.cells #[.int .i64 nx3, .slice B3 u3 d3] 24)) w13.heap.size 24 #[.int .i64 nx3, .slice B3 u3 d3] from Blk.new_at _ _ _ rfl)
      clear na
      obtain ⟨⟨q0, q1⟩, q2, q3⟩ := Y2.out.facts2
      go_wp2_with fail
      refine (P4.out _ _ T2c.out _ T2.out).mono ?_; rintro _ w14 ⟨B4, d4, rfl, hcc, hns, b⟩
      have HB := Lib.hid (below_on HB.out b)
      have S0 := Lib.hid (S0.out.on b)
      have X0 := Lib.hid (X0.out.below b X0.out.lt)
      have LW := Lib.hid (lt_on LW.out b)
      have T1 := Lib.hid (T1.out.on b)
      have Y1 := Lib.hid (Y1.out.below b Y1.out.lt)
      have T2 := Lib.hid (T2.out.on b)
      have Y2 := Lib.hid (Y2.out.below b Y2.out.lt)
      have T3 := Lib.hid (T3.out.on b)
      have Y3 := Lib.hid (Y3.out.below b Y3.out.lt)
      have T4c := Lib.hid hcc
      have T4 := Lib.hid (hns)
      clear b hcc hns
      clear q0 q1 q2 q3
      have na := nb0 w14 (.cells #[.int .i64 nx4, .slice B4 u4 d4] 24)
      have HB := Lib.hid (below_on HB.out na)
      have S0 := Lib.hid (S0.out.on na)
      have X0 := Lib.hid (X0.out.below na X0.out.lt)
      have LW := Lib.hid (lt_on LW.out na)
      have T1 := Lib.hid (T1.out.on na)
      have Y1 := Lib.hid (Y1.out.below na Y1.out.lt)
      have T2 := Lib.hid (T2.out.on na)
      have Y2 := Lib.hid (Y2.out.below na Y2.out.lt)
      have T3 := Lib.hid (T3.out.on na)
      have Y3 := Lib.hid (Y3.out.below na Y3.out.lt)
      have T4 := Lib.hid (T4.out.on na)
      have Y4 := Lib.hid (show Blk (w14.alloc (.cells #[.int .i64 nx4, .slice B4 u4 d4] 24)) w14.heap.size 24 #[.int .i64 nx4, .slice B4 u4 d4] from Blk.new_at _ _ _ rfl)
      clear na
      obtain ⟨⟨q0, q1⟩, q2, q3⟩ := Y1.out.facts2
      obtain ⟨⟨r0, r1⟩, r2, r3⟩ := Y2.out.facts2
      go_wp2_with fail
      go_ret
      exact ⟨by first | rfl | simp, HB.out⟩
  obtain ⟨u1, hL1⟩ : ∃ u1, (L.filter (fun p => !hitF m now p)).length = u1 := ⟨_, rfl⟩
  have hl1 : u1 ≤ 1048576 := by have := use_len hu; rw [hL1, HN.out] at this; omega
  have P1 := Lib.hid (fun W hs => Use_k nx A n c L HN.out hl m now nx _ u1 0 hu hL1 hcap.out W hs)
  rcases use_cases nx L m2 now with ⟨_, _, hg2, hu2⟩ | ⟨e, he, hu2⟩
  rotate_left 1
  · obtain ⟨nx3, L3, e3, hu3⟩ : ∃ nx3 L3 e3, useF nx (L.filter (fun p => !hitF m now p)) m2 now = (nx3, L3, e3) := ⟨_, _, _, rfl⟩
    obtain ⟨nx4, L4, e4, hu4⟩ : ∃ nx4 L4 e4, useF 0 [] m now = (nx4, L4, e4) := ⟨_, _, _, rfl⟩
    have P2 := Lib.hid (fun W hs => Use_k nx A n c L HN.out hl m2 now 0 [] 0 e hu2 rfl hcap.out W hs)
    have P3 := Lib.hid (fun B d hcd W hs => Use_k nx B u1 d _ hL1 hl1 m2 now nx3 L3 _ e3 hu3 rfl hcd W hs)
    have P4 := Lib.hid (fun B d hcd W hs => Use_k 0 B 0 d [] rfl (by omega) m now nx4 L4 _ e4 hu4 rfl hcd W hs)
    generalize L3.length = u3 at P3
    generalize L4.length = u4 at P4
    have g0 : (e == 0) = false := by simpa using he
    have g1 : (e != 0) = true := by simpa using he
    clear hu hu2 hu3 hu4 hL1 he hk hg
    go_enter Try.func10, Try.ntmps10
    go_wp2_with fail
    have HB := Lib.hid (Below.refl W.heap.size W)
    have S0 := Lib.hid (hs0.out)
    have na := nb0 W (.cells #[.int .i64 nx, .slice A n c] 24)
    have HB := Lib.hid (below_on HB.out na)
    have S0 := Lib.hid (S0.out.on na)
    have X0 := Lib.hid (show Blk (W.alloc (.cells #[.int .i64 nx, .slice A n c] 24)) W.heap.size 24 #[.int .i64 nx, .slice A n c] from Blk.new_at _ _ _ rfl)
    clear na
    have LW := Lib.hid X0.out.lt
    refine (live21 _).mono ?_; rintro _ w15 ⟨rfl, b⟩
    have HB := Lib.hid (below_on HB.out b)
    have S0 := Lib.hid (S0.out.on b)
    have X0 := Lib.hid (X0.out.below b X0.out.lt)
    have LW := Lib.hid (lt_on LW.out b)
    clear b
    obtain ⟨⟨q0, q1⟩, q2, q3⟩ := X0.out.facts2
    go_wp2_with fail
    refine (Few_n nx A n c hmx.out _).mono ?_; rintro _ w16 ⟨rfl, b⟩
    have HB := Lib.hid (below_on HB.out b)
    have S0 := Lib.hid (S0.out.on b)
    have X0 := Lib.hid (X0.out.below b X0.out.lt)
    have LW := Lib.hid (lt_on LW.out b)
    clear b
    rw [h100d.out]
    clear q0 q1 q2 q3
    obtain ⟨⟨q0, q1⟩, q2, q3⟩ := X0.out.facts2
    go_wp2_with fail
    refine (P1.out _ S0.out).mono ?_; rintro _ w17 ⟨B1, d1, rfl, hcc, hns, b⟩
    have HB := Lib.hid (below_on HB.out b)
    have S0 := Lib.hid (S0.out.on b)
    have X0 := Lib.hid (X0.out.below b X0.out.lt)
    have LW := Lib.hid (lt_on LW.out b)
    have T1c := Lib.hid hcc
    have T1 := Lib.hid (hns)
    clear b hcc hns
    clear q0 q1 q2 q3
    have na := nb0 w17 (.cells #[.int .i64 nx, .slice B1 u1 d1] 24)
    have HB := Lib.hid (below_on HB.out na)
    have S0 := Lib.hid (S0.out.on na)
    have X0 := Lib.hid (X0.out.below na X0.out.lt)
    have LW := Lib.hid (lt_on LW.out na)
    have T1 := Lib.hid (T1.out.on na)
    have Y1 := Lib.hid (show Blk (w17.alloc (.cells #[.int .i64 nx, .slice B1 u1 d1] 24)) w17.heap.size 24 #[.int .i64 nx, .slice B1 u1 d1] from Blk.new_at _ _ _ rfl)
    clear na
    obtain ⟨⟨q0, q1⟩, q2, q3⟩ := X0.out.facts2
    go_wp2_with fail
    refine (P2.out _ S0.out).mono ?_; rintro _ w18 ⟨B2, d2, rfl, hcc, hns, b⟩
    have HB := Lib.hid (below_on HB.out b)
    have S0 := Lib.hid (S0.out.on b)
    have X0 := Lib.hid (X0.out.below b X0.out.lt)
    have LW := Lib.hid (lt_on LW.out b)
    have T1 := Lib.hid (T1.out.on b)
    have Y1 := Lib.hid (Y1.out.below b Y1.out.lt)
    have T2c := Lib.hid hcc
    have T2 := Lib.hid (hns)
    clear b hcc hns
    clear q0 q1 q2 q3
    have na := nb0 w18 (.cells #[.int .i64 0, .slice B2 0 d2] 24)
    have HB := Lib.hid (below_on HB.out na)
    have S0 := Lib.hid (S0.out.on na)
    have X0 := Lib.hid (X0.out.below na X0.out.lt)
    have LW := Lib.hid (lt_on LW.out na)
    have T1 := Lib.hid (T1.out.on na)
    have Y1 := Lib.hid (Y1.out.below na Y1.out.lt)
    have T2 := Lib.hid (T2.out.on na)
    have Y2 := Lib.hid (show Blk (w18.alloc (.cells #[.int .i64 0, .slice B2 0 d2] 24)) w18.heap.size 24 #[.int .i64 0, .slice B2 0 d2] from Blk.new_at _ _ _ rfl)
    clear na
    obtain ⟨⟨q0, q1⟩, q2, q3⟩ := Y1.out.facts2
    go_wp2_with fail
    refine (P3.out _ _ T1c.out _ T1.out).mono ?_; rintro _ w19 ⟨B3, d3, rfl, hcc, hns, b⟩
    have HB := Lib.hid (below_on HB.out b)
    have S0 := Lib.hid (S0.out.on b)
    have X0 := Lib.hid (X0.out.below b X0.out.lt)
    have LW := Lib.hid (lt_on LW.out b)
    have T1 := Lib.hid (T1.out.on b)
    have Y1 := Lib.hid (Y1.out.below b Y1.out.lt)
    have T2 := Lib.hid (T2.out.on b)
    have Y2 := Lib.hid (Y2.out.below b Y2.out.lt)
    have T3c := Lib.hid hcc
    have T3 := Lib.hid (hns)
    clear b hcc hns
    clear q0 q1 q2 q3
    have na := nb0 w19 (.cells #[.int .i64 nx3, .slice B3 u3 d3] 24)
    have HB := Lib.hid (below_on HB.out na)
    have S0 := Lib.hid (S0.out.on na)
    have X0 := Lib.hid (X0.out.below na X0.out.lt)
    have LW := Lib.hid (lt_on LW.out na)
    have T1 := Lib.hid (T1.out.on na)
    have Y1 := Lib.hid (Y1.out.below na Y1.out.lt)
    have T2 := Lib.hid (T2.out.on na)
    have Y2 := Lib.hid (Y2.out.below na Y2.out.lt)
    have T3 := Lib.hid (T3.out.on na)
    have Y3 := Lib.hid (show Blk (w19.alloc (.cells #[.int .i64 nx3, .slice B3 u3 d3] 24)) w19.heap.size 24 #[.int .i64 nx3, .slice B3 u3 d3] from Blk.new_at _ _ _ rfl)
    clear na
    obtain ⟨⟨q0, q1⟩, q2, q3⟩ := Y2.out.facts2
    go_wp2_with fail
    refine (P4.out _ _ T2c.out _ T2.out).mono ?_; rintro _ w20 ⟨B4, d4, rfl, hcc, hns, b⟩
    have HB := Lib.hid (below_on HB.out b)
    have S0 := Lib.hid (S0.out.on b)
    have X0 := Lib.hid (X0.out.below b X0.out.lt)
    have LW := Lib.hid (lt_on LW.out b)
    have T1 := Lib.hid (T1.out.on b)
    have Y1 := Lib.hid (Y1.out.below b Y1.out.lt)
    have T2 := Lib.hid (T2.out.on b)
    have Y2 := Lib.hid (Y2.out.below b Y2.out.lt)
    have T3 := Lib.hid (T3.out.on b)
    have Y3 := Lib.hid (Y3.out.below b Y3.out.lt)
    have T4c := Lib.hid hcc
    have T4 := Lib.hid (hns)
    clear b hcc hns
    clear q0 q1 q2 q3
    have na := nb0 w20 (.cells #[.int .i64 nx4, .slice B4 u4 d4] 24)
    have HB := Lib.hid (below_on HB.out na)
    have S0 := Lib.hid (S0.out.on na)
    have X0 := Lib.hid (X0.out.below na X0.out.lt)
    have LW := Lib.hid (lt_on LW.out na)
    have T1 := Lib.hid (T1.out.on na)
    have Y1 := Lib.hid (Y1.out.below na Y1.out.lt)
    have T2 := Lib.hid (T2.out.on na)
    have Y2 := Lib.hid (Y2.out.below na Y2.out.lt)
    have T3 := Lib.hid (T3.out.on na)
    have Y3 := Lib.hid (Y3.out.below na Y3.out.lt)
    have T4 := Lib.hid (T4.out.on na)
    have Y4 := Lib.hid (show Blk (w20.alloc (.cells #[.int .i64 nx4, .slice B4 u4 d4] 24)) w20.heap.size 24 #[.int .i64 nx4, .slice B4 u4 d4] from Blk.new_at _ _ _ rfl)
    clear na
    obtain ⟨⟨q0, q1⟩, q2, q3⟩ := Y1.out.facts2
    obtain ⟨⟨r0, r1⟩, r2, r3⟩ := Y2.out.facts2
    go_wp2_with fail
    go_ret
    exact ⟨by first | rfl | simp, HB.out⟩
  obtain ⟨u2, hL2⟩ : ∃ u2, (L.filter (fun p => !hitF m2 now p)).length = u2 := ⟨_, rfl⟩
  have hl2 : u2 ≤ 1048576 := by have := use_len hu2; rw [hL2, HN.out] at this; omega
  have P2 := Lib.hid (fun W hs => Use_k nx A n c L HN.out hl m2 now nx _ u2 0 hu2 hL2 hcap.out W hs)
  by_cases hmm : m = m2
  · subst hmm
    have hb := both_same hk hn hg
    have P3 := Lib.hid (fun B d hcd W hs => Use_k nx B u1 d _ hL1 hl1 m now 0 [] 0 210 hb rfl hcd W hs)
    have P4 := Lib.hid (fun B d hcd W hs => Use_k nx B u2 d _ hL2 hl2 m now 0 [] 0 210 hb rfl hcd W hs)
    clear hu hu2 hb hk hn hg hg2
    go_enter Try.func10, Try.ntmps10
    go_wp2_with fail
    have HB := Lib.hid (Below.refl W.heap.size W)
    have S0 := Lib.hid (hs0.out)
    have na := nb0 W (.cells #[.int .i64 nx, .slice A n c] 24)
    have HB := Lib.hid (below_on HB.out na)
    have S0 := Lib.hid (S0.out.on na)
    have X0 := Lib.hid (show Blk (W.alloc (.cells #[.int .i64 nx, .slice A n c] 24)) W.heap.size 24 #[.int .i64 nx, .slice A n c] from Blk.new_at _ _ _ rfl)
    clear na
    have LW := Lib.hid X0.out.lt
    refine (live21 _).mono ?_; rintro _ w21 ⟨rfl, b⟩
    have HB := Lib.hid (below_on HB.out b)
    have S0 := Lib.hid (S0.out.on b)
    have X0 := Lib.hid (X0.out.below b X0.out.lt)
    have LW := Lib.hid (lt_on LW.out b)
    clear b
    obtain ⟨⟨q0, q1⟩, q2, q3⟩ := X0.out.facts2
    go_wp2_with fail
    refine (Few_n nx A n c hmx.out _).mono ?_; rintro _ w22 ⟨rfl, b⟩
    have HB := Lib.hid (below_on HB.out b)
    have S0 := Lib.hid (S0.out.on b)
    have X0 := Lib.hid (X0.out.below b X0.out.lt)
    have LW := Lib.hid (lt_on LW.out b)
    clear b
    rw [h100d.out]
    clear q0 q1 q2 q3
    obtain ⟨⟨q0, q1⟩, q2, q3⟩ := X0.out.facts2
    go_wp2_with fail
    refine (P1.out _ S0.out).mono ?_; rintro _ w23 ⟨B1, d1, rfl, hcc, hns, b⟩
    have HB := Lib.hid (below_on HB.out b)
    have S0 := Lib.hid (S0.out.on b)
    have X0 := Lib.hid (X0.out.below b X0.out.lt)
    have LW := Lib.hid (lt_on LW.out b)
    have T1c := Lib.hid hcc
    have T1 := Lib.hid (hns)
    clear b hcc hns
    clear q0 q1 q2 q3
    have na := nb0 w23 (.cells #[.int .i64 nx, .slice B1 u1 d1] 24)
    have HB := Lib.hid (below_on HB.out na)
    have S0 := Lib.hid (S0.out.on na)
    have X0 := Lib.hid (X0.out.below na X0.out.lt)
    have LW := Lib.hid (lt_on LW.out na)
    have T1 := Lib.hid (T1.out.on na)
    have Y1 := Lib.hid (show Blk (w23.alloc (.cells #[.int .i64 nx, .slice B1 u1 d1] 24)) w23.heap.size 24 #[.int .i64 nx, .slice B1 u1 d1] from Blk.new_at _ _ _ rfl)
    clear na
    obtain ⟨⟨q0, q1⟩, q2, q3⟩ := X0.out.facts2
    go_wp2_with fail
    refine (P2.out _ S0.out).mono ?_; rintro _ w24 ⟨B2, d2, rfl, hcc, hns, b⟩
    have HB := Lib.hid (below_on HB.out b)
    have S0 := Lib.hid (S0.out.on b)
    have X0 := Lib.hid (X0.out.below b X0.out.lt)
    have LW := Lib.hid (lt_on LW.out b)
    have T1 := Lib.hid (T1.out.on b)
    have Y1 := Lib.hid (Y1.out.below b Y1.out.lt)
    have T2c := Lib.hid hcc
    have T2 := Lib.hid (hns)
    clear b hcc hns
    clear q0 q1 q2 q3
    have na := nb0 w24 (.cells #[.int .i64 nx, .slice B2 u2 d2] 24)
    have HB := Lib.hid (below_on HB.out na)
    have S0 := Lib.hid (S0.out.on na)
    have X0 := Lib.hid (X0.out.below na X0.out.lt)
    have LW := Lib.hid (lt_on LW.out na)
    have T1 := Lib.hid (T1.out.on na)
    have Y1 := Lib.hid (Y1.out.below na Y1.out.lt)
    have T2 := Lib.hid (T2.out.on na)
    have Y2 := Lib.hid (show Blk (w24.alloc (.cells #[.int .i64 nx, .slice B2 u2 d2] 24)) w24.heap.size 24 #[.int .i64 nx, .slice B2 u2 d2] from Blk.new_at _ _ _ rfl)
    clear na
    obtain ⟨⟨q0, q1⟩, q2, q3⟩ := Y1.out.facts2
    go_wp2_with fail
    refine (P3.out _ _ T1c.out _ T1.out).mono ?_; rintro _ w25 ⟨B3, d3, rfl, hcc, hns, b⟩
    have HB := Lib.hid (below_on HB.out b)
    have S0 := Lib.hid (S0.out.on b)
    have X0 := Lib.hid (X0.out.below b X0.out.lt)
    have LW := Lib.hid (lt_on LW.out b)
    have T1 := Lib.hid (T1.out.on b)
    have Y1 := Lib.hid (Y1.out.below b Y1.out.lt)
    have T2 := Lib.hid (T2.out.on b)
    have Y2 := Lib.hid (Y2.out.below b Y2.out.lt)
    have T3c := Lib.hid hcc
    have T3 := Lib.hid (hns)
    clear b hcc hns
    clear q0 q1 q2 q3
    have na := nb0 w25 (.cells #[.int .i64 0, .slice B3 0 d3] 24)
    have HB := Lib.hid (below_on HB.out na)
    have S0 := Lib.hid (S0.out.on na)
    have X0 := Lib.hid (X0.out.below na X0.out.lt)
    have LW := Lib.hid (lt_on LW.out na)
    have T1 := Lib.hid (T1.out.on na)
    have Y1 := Lib.hid (Y1.out.below na Y1.out.lt)
    have T2 := Lib.hid (T2.out.on na)
    have Y2 := Lib.hid (Y2.out.below na Y2.out.lt)
    have T3 := Lib.hid (T3.out.on na)
    have Y3 := Lib.hid (show Blk (w25.alloc (.cells #[.int .i64 0, .slice B3 0 d3] 24)) w25.heap.size 24 #[.int .i64 0, .slice B3 0 d3] from Blk.new_at _ _ _ rfl)
    clear na
    obtain ⟨⟨q0, q1⟩, q2, q3⟩ := Y2.out.facts2
    go_wp2_with fail
    refine (P4.out _ _ T2c.out _ T2.out).mono ?_; rintro _ w26 ⟨B4, d4, rfl, hcc, hns, b⟩
    have HB := Lib.hid (below_on HB.out b)
    have S0 := Lib.hid (S0.out.on b)
    have X0 := Lib.hid (X0.out.below b X0.out.lt)
    have LW := Lib.hid (lt_on LW.out b)
    have T1 := Lib.hid (T1.out.on b)
    have Y1 := Lib.hid (Y1.out.below b Y1.out.lt)
    have T2 := Lib.hid (T2.out.on b)
    have Y2 := Lib.hid (Y2.out.below b Y2.out.lt)
    have T3 := Lib.hid (T3.out.on b)
    have Y3 := Lib.hid (Y3.out.below b Y3.out.lt)
    have T4c := Lib.hid hcc
    have T4 := Lib.hid (hns)
    clear b hcc hns
    clear q0 q1 q2 q3
    have na := nb0 w26 (.cells #[.int .i64 0, .slice B4 0 d4] 24)
    have HB := Lib.hid (below_on HB.out na)
    have S0 := Lib.hid (S0.out.on na)
    have X0 := Lib.hid (X0.out.below na X0.out.lt)
    have LW := Lib.hid (lt_on LW.out na)
    have T1 := Lib.hid (T1.out.on na)
    have Y1 := Lib.hid (Y1.out.below na Y1.out.lt)
    have T2 := Lib.hid (T2.out.on na)
    have Y2 := Lib.hid (Y2.out.below na Y2.out.lt)
    have T3 := Lib.hid (T3.out.on na)
    have Y3 := Lib.hid (Y3.out.below na Y3.out.lt)
    have T4 := Lib.hid (T4.out.on na)
    have Y4 := Lib.hid (show Blk (w26.alloc (.cells #[.int .i64 0, .slice B4 0 d4] 24)) w26.heap.size 24 #[.int .i64 0, .slice B4 0 d4] from Blk.new_at _ _ _ rfl)
    clear na
    go_wp2_with fail
    go_ret
    exact ⟨by first | rfl | simp, HB.out⟩
  · have hb := both_other hk hn hg2 (fun h => hmm h.symm)
    have hb2 := both_other hk hn hg hmm
    rw [both_comm] at hb2
    obtain ⟨u3, hL3⟩ : ∃ u3, ((L.filter (fun p => !hitF m now p)).filter (fun p => !hitF m2 now p)).length = u3 := ⟨_, rfl⟩
    have hlen := both_len hk hg hg2 (fun h => hmm h.symm)
    rw [hL3, HN.out] at hlen
    have P3 := Lib.hid (fun B d hcd W hs => Use_k nx B u1 d _ hL1 hl1 m2 now nx _ u3 0 hb hL3 hcd W hs)
    have P4 := Lib.hid (fun B d hcd W hs => Use_k nx B u2 d _ hL2 hl2 m now nx _ u3 0 hb2 hL3 hcd W hs)
    have P5 := Lib.hid (fun B1 d1 B2 d2 W hs hs' => Same_k nx B1 u3 d1 _ hL3 (by omega) B2 d2 W hs hs')
    have g1 : (m == m2) = false := by simpa using hmm
    have g2 : ((u3 : Int) == (n : Int) - 2) = true := by rw [beq_iff_eq]; omega
    clear hu hu2 hb hb2 hk hn hg hg2 hL1 hL2 hL3 hmm
    go_enter Try.func10, Try.ntmps10
    go_wp2_with fail
    have HB := Lib.hid (Below.refl W.heap.size W)
    have S0 := Lib.hid (hs0.out)
    have na := nb0 W (.cells #[.int .i64 nx, .slice A n c] 24)
    have HB := Lib.hid (below_on HB.out na)
    have S0 := Lib.hid (S0.out.on na)
    have X0 := Lib.hid (show Blk (W.alloc (.cells #[.int .i64 nx, .slice A n c] 24)) W.heap.size 24 #[.int .i64 nx, .slice A n c] from Blk.new_at _ _ _ rfl)
    clear na
    have LW := Lib.hid X0.out.lt
    refine (live21 _).mono ?_; rintro _ w27 ⟨rfl, b⟩
    have HB := Lib.hid (below_on HB.out b)
    have S0 := Lib.hid (S0.out.on b)
    have X0 := Lib.hid (X0.out.below b X0.out.lt)
    have LW := Lib.hid (lt_on LW.out b)
    clear b
    obtain ⟨⟨q0, q1⟩, q2, q3⟩ := X0.out.facts2
    go_wp2_with fail
    refine (Few_n nx A n c hmx.out _).mono ?_; rintro _ w28 ⟨rfl, b⟩
    have HB := Lib.hid (below_on HB.out b)
    have S0 := Lib.hid (S0.out.on b)
    have X0 := Lib.hid (X0.out.below b X0.out.lt)
    have LW := Lib.hid (lt_on LW.out b)
    clear b
    rw [h100d.out]
    clear q0 q1 q2 q3
    obtain ⟨⟨q0, q1⟩, q2, q3⟩ := X0.out.facts2
    go_wp2_with fail
    refine (P1.out _ S0.out).mono ?_; rintro _ w29 ⟨B1, d1, rfl, hcc, hns, b⟩
    have HB := Lib.hid (below_on HB.out b)
    have S0 := Lib.hid (S0.out.on b)
    have X0 := Lib.hid (X0.out.below b X0.out.lt)
    have LW := Lib.hid (lt_on LW.out b)
    have T1c := Lib.hid hcc
    have T1 := Lib.hid (hns)
    clear b hcc hns
    clear q0 q1 q2 q3
    have na := nb0 w29 (.cells #[.int .i64 nx, .slice B1 u1 d1] 24)
    have HB := Lib.hid (below_on HB.out na)
    have S0 := Lib.hid (S0.out.on na)
    have X0 := Lib.hid (X0.out.below na X0.out.lt)
    have LW := Lib.hid (lt_on LW.out na)
    have T1 := Lib.hid (T1.out.on na)
    have Y1 := Lib.hid (show Blk (w29.alloc (.cells #[.int .i64 nx, .slice B1 u1 d1] 24)) w29.heap.size 24 #[.int .i64 nx, .slice B1 u1 d1] from Blk.new_at _ _ _ rfl)
    clear na
    obtain ⟨⟨q0, q1⟩, q2, q3⟩ := X0.out.facts2
    go_wp2_with fail
    refine (P2.out _ S0.out).mono ?_; rintro _ w30 ⟨B2, d2, rfl, hcc, hns, b⟩
    have HB := Lib.hid (below_on HB.out b)
    have S0 := Lib.hid (S0.out.on b)
    have X0 := Lib.hid (X0.out.below b X0.out.lt)
    have LW := Lib.hid (lt_on LW.out b)
    have T1 := Lib.hid (T1.out.on b)
    have Y1 := Lib.hid (Y1.out.below b Y1.out.lt)
    have T2c := Lib.hid hcc
    have T2 := Lib.hid (hns)
    clear b hcc hns
    clear q0 q1 q2 q3
    have na := nb0 w30 (.cells #[.int .i64 nx, .slice B2 u2 d2] 24)
    have HB := Lib.hid (below_on HB.out na)
    have S0 := Lib.hid (S0.out.on na)
    have X0 := Lib.hid (X0.out.below na X0.out.lt)
    have LW := Lib.hid (lt_on LW.out na)
    have T1 := Lib.hid (T1.out.on na)
    have Y1 := Lib.hid (Y1.out.below na Y1.out.lt)
    have T2 := Lib.hid (T2.out.on na)
    have Y2 := Lib.hid (show Blk (w30.alloc (.cells #[.int .i64 nx, .slice B2 u2 d2] 24)) w30.heap.size 24 #[.int .i64 nx, .slice B2 u2 d2] from Blk.new_at _ _ _ rfl)
    clear na
    obtain ⟨⟨q0, q1⟩, q2, q3⟩ := Y1.out.facts2
    go_wp2_with fail
    refine (P3.out _ _ T1c.out _ T1.out).mono ?_; rintro _ w31 ⟨B3, d3, rfl, hcc, hns, b⟩
    have HB := Lib.hid (below_on HB.out b)
    have S0 := Lib.hid (S0.out.on b)
    have X0 := Lib.hid (X0.out.below b X0.out.lt)
    have LW := Lib.hid (lt_on LW.out b)
    have T1 := Lib.hid (T1.out.on b)
    have Y1 := Lib.hid (Y1.out.below b Y1.out.lt)
    have T2 := Lib.hid (T2.out.on b)
    have Y2 := Lib.hid (Y2.out.below b Y2.out.lt)
    have T3c := Lib.hid hcc
    have T3 := Lib.hid (hns)
    clear b hcc hns
    clear q0 q1 q2 q3
    have na := nb0 w31 (.cells #[.int .i64 nx, .slice B3 u3 d3] 24)
    have HB := Lib.hid (below_on HB.out na)
    have S0 := Lib.hid (S0.out.on na)
    have X0 := Lib.hid (X0.out.below na X0.out.lt)
    have LW := Lib.hid (lt_on LW.out na)
    have T1 := Lib.hid (T1.out.on na)
    have Y1 := Lib.hid (Y1.out.below na Y1.out.lt)
    have T2 := Lib.hid (T2.out.on na)
    have Y2 := Lib.hid (Y2.out.below na Y2.out.lt)
    have T3 := Lib.hid (T3.out.on na)
    have Y3 := Lib.hid (show Blk (w31.alloc (.cells #[.int .i64 nx, .slice B3 u3 d3] 24)) w31.heap.size 24 #[.int .i64 nx, .slice B3 u3 d3] from Blk.new_at _ _ _ rfl)
    clear na
    obtain ⟨⟨q0, q1⟩, q2, q3⟩ := Y2.out.facts2
    go_wp2_with fail
    refine (P4.out _ _ T2c.out _ T2.out).mono ?_; rintro _ w32 ⟨B4, d4, rfl, hcc, hns, b⟩
    have HB := Lib.hid (below_on HB.out b)
    have S0 := Lib.hid (S0.out.on b)
    have X0 := Lib.hid (X0.out.below b X0.out.lt)
    have LW := Lib.hid (lt_on LW.out b)
    have T1 := Lib.hid (T1.out.on b)
    have Y1 := Lib.hid (Y1.out.below b Y1.out.lt)
    have T2 := Lib.hid (T2.out.on b)
    have Y2 := Lib.hid (Y2.out.below b Y2.out.lt)
    have T3 := Lib.hid (T3.out.on b)
    have Y3 := Lib.hid (Y3.out.below b Y3.out.lt)
    have T4c := Lib.hid hcc
    have T4 := Lib.hid (hns)
    clear b hcc hns
    clear q0 q1 q2 q3
    have na := nb0 w32 (.cells #[.int .i64 nx, .slice B4 u3 d4] 24)
    have HB := Lib.hid (below_on HB.out na)
    have S0 := Lib.hid (S0.out.on na)
    have X0 := Lib.hid (X0.out.below na X0.out.lt)
    have LW := Lib.hid (lt_on LW.out na)
    have T1 := Lib.hid (T1.out.on na)
    have Y1 := Lib.hid (Y1.out.below na Y1.out.lt)
    have T2 := Lib.hid (T2.out.on na)
    have Y2 := Lib.hid (Y2.out.below na Y2.out.lt)
    have T3 := Lib.hid (T3.out.on na)
    have Y3 := Lib.hid (Y3.out.below na Y3.out.lt)
    have T4 := Lib.hid (T4.out.on na)
    have Y4 := Lib.hid (show Blk (w32.alloc (.cells #[.int .i64 nx, .slice B4 u3 d4] 24)) w32.heap.size 24 #[.int .i64 nx, .slice B4 u3 d4] from Blk.new_at _ _ _ rfl)
    clear na
    obtain ⟨⟨q0, q1⟩, q2, q3⟩ := Y3.out.facts2
    obtain ⟨⟨r0, r1⟩, r2, r3⟩ := Y4.out.facts2
    go_wp2_with fail
    refine (P5.out _ _ _ _ _ T3.out T4.out).mono ?_; rintro _ w33 ⟨rfl, b⟩
    have HB := Lib.hid (below_on HB.out b)
    have S0 := Lib.hid (S0.out.on b)
    have X0 := Lib.hid (X0.out.below b X0.out.lt)
    have LW := Lib.hid (lt_on LW.out b)
    have T1 := Lib.hid (T1.out.on b)
    have Y1 := Lib.hid (Y1.out.below b Y1.out.lt)
    have T2 := Lib.hid (T2.out.on b)
    have Y2 := Lib.hid (Y2.out.below b Y2.out.lt)
    have T3 := Lib.hid (T3.out.on b)
    have Y3 := Lib.hid (Y3.out.below b Y3.out.lt)
    have T4 := Lib.hid (T4.out.on b)
    have Y4 := Lib.hid (Y4.out.below b Y4.out.lt)
    clear b
    clear q0 q1 q2 q3
    clear r0 r1 r2 r3
    obtain ⟨⟨q0, q1⟩, q2, q3⟩ := Y3.out.facts2
    obtain ⟨⟨r0, r1⟩, r2, r3⟩ := X0.out.facts2
    go_wp2_with fail
    go_ret
    exact ⟨by first | rfl | simp, HB.out⟩
end Go.Proofs.Ytdiafbeohldbjaa

/- The walk of NonceTrims. (Printed by tools/gen_nonce_laws.py.) -/
import Derived.Test.YtdiafbeohldbjaaNonceLive
import Derived.Test.YtdiafbeohldbjaaNonceLaw
namespace Go.Proofs.Ytdiafbeohldbjaa
open Go.ChangeShapes Go.WideShapes Go.ChangeAt Go.RowKit Gs
set_option linter.unusedVariables false
set_option linter.unusedSimpArgs false

set_option maxRecDepth 100000 in
set_option maxHeartbeats 8000000 in
theorem trims_walk21 (nx : Int) (A : Option Addr) (n c : Nat) (L : List (Int × Int)) (hn : L.length = n) (now th m : Int) (W : World) (hs : NS W W.heap.size A L) (hc : n ≤ c) (hm : c ≤ maxLen) :
    Calls Try.prog 8 #[fv nx A n c, .int .i64 now, .int .i64 th, .int .i64 m] W fun e w' => e = .returned (.bool true) ∧ Below W.heap.size W w' := by
  have hs0 := Lib.hid hs
  have hmx := Lib.hid (show n ≤ maxLen by omega)
  have hcap := Lib.hid (And.intro hc hm)
  have HN := Lib.hid hn
  clear hs hn
  by_cases h100 : n ≤ 100
  rotate_left 1
  · have h100d := Lib.hid (decide_eq_false h100)
    go_enter Try.func8, Try.ntmps8
    go_wp2_with fail
    have HB := Lib.hid (Below.refl W.heap.size W)
    have S0 := Lib.hid (hs0.out)
    have na := nb0 W (.cells #[.int .i64 nx, .slice A n c] 24)
    have HB := Lib.hid (below_on HB.out na)
    have S0 := Lib.hid (S0.out.on na)
    have X0 := Lib.hid (show Blk (W.alloc (.cells #[.int .i64 nx, .slice A n c] 24)) W.heap.size 24 #[.int .i64 nx, .slice A n c] from Blk.new_at _ _ _ rfl)
    clear na
    have LW := Lib.hid X0.out.lt
    refine (live21 _).mono ?_; rintro _ w1 ⟨rfl, b⟩
    have HB := Lib.hid (below_on HB.out b)
    have S0 := Lib.hid (S0.out.on b)
    have X0 := Lib.hid (X0.out.below b X0.out.lt)
    have LW := Lib.hid (lt_on LW.out b)
    clear b
    obtain ⟨⟨q0, q1⟩, q2, q3⟩ := X0.out.facts2
    go_wp2_with fail
    refine (Few_n nx A n c hmx.out _).mono ?_; rintro _ w2 ⟨rfl, b⟩
    have HB := Lib.hid (below_on HB.out b)
    have S0 := Lib.hid (S0.out.on b)
    have X0 := Lib.hid (X0.out.below b X0.out.lt)
    have LW := Lib.hid (lt_on LW.out b)
    clear b
    rw [h100d.out]
    clear q0 q1 q2 q3
    go_wp2_with fail
    go_ret
    exact ⟨rfl, HB.out⟩
  have h100d := Lib.hid (decide_eq_true h100)
  have hl : n ≤ 1048576 := by omega
  clear hm
  by_cases hk : chkF nx L = 0
  rotate_left 1
  · have hkr : (chkF nx L != 0) = true := by simpa using hk
    have P1 := Lib.hid (fun W hs => Check_k nx A n c L HN.out hl _ rfl W hs)
    generalize chkF nx L = r at P1 hkr
    clear hk
    go_enter Try.func8, Try.ntmps8
    go_wp2_with fail
    have HB := Lib.hid (Below.refl W.heap.size W)
    have S0 := Lib.hid (hs0.out)
    have na := nb0 W (.cells #[.int .i64 nx, .slice A n c] 24)
    have HB := Lib.hid (below_on HB.out na)
    have S0 := Lib.hid (S0.out.on na)
    have X0 := Lib.hid (show Blk (W.alloc (.cells #[.int .i64 nx, .slice A n c] 24)) W.heap.size 24 #[.int .i64 nx, .slice A n c] from Blk.new_at _ _ _ rfl)
    clear na
    have LW := Lib.hid X0.out.lt
    refine (live21 _).mono ?_; rintro _ w3 ⟨rfl, b⟩
    have HB := Lib.hid (below_on HB.out b)
    have S0 := Lib.hid (S0.out.on b)
    have X0 := Lib.hid (X0.out.below b X0.out.lt)
    have LW := Lib.hid (lt_on LW.out b)
    clear b
    obtain ⟨⟨q0, q1⟩, q2, q3⟩ := X0.out.facts2
    go_wp2_with fail
    refine (Few_n nx A n c hmx.out _).mono ?_; rintro _ w4 ⟨rfl, b⟩
    have HB := Lib.hid (below_on HB.out b)
    have S0 := Lib.hid (S0.out.on b)
    have X0 := Lib.hid (X0.out.below b X0.out.lt)
    have LW := Lib.hid (lt_on LW.out b)
    clear b
    rw [h100d.out]
    clear q0 q1 q2 q3
    obtain ⟨⟨q0, q1⟩, q2, q3⟩ := X0.out.facts2
    go_wp2_with fail
    refine (P1.out _ S0.out).mono ?_; rintro _ w5 ⟨rfl, b⟩
    have HB := Lib.hid (below_on HB.out b)
    have S0 := Lib.hid (S0.out.on b)
    have X0 := Lib.hid (X0.out.below b X0.out.lt)
    have LW := Lib.hid (lt_on LW.out b)
    clear b
    go_wp2_with fail
    go_ret
    exact ⟨rfl, HB.out⟩
  have P1 := Lib.hid (fun W hs => Check_k nx A n c L HN.out hl 0 hk W hs)
  obtain ⟨X, hX⟩ : ∃ X, trimF now L = X := ⟨_, rfl⟩
  obtain ⟨x, hx⟩ : ∃ x, X.length = x := ⟨_, rfl⟩
  have hlx : x ≤ 1048576 := by have := trim_le now L; rw [hX, hx, HN.out] at this; omega
  have HF := Lib.hid (trim_fresh hX)
  have HX := Lib.hid hx
  have P2 := Lib.hid (fun W hs => Trim_k nx A n c L HN.out hl now X x hX hx W hs)
  obtain ⟨y, hy⟩ : ∃ y, (trimF (max now th) L).length = y := ⟨_, rfl⟩
  have hly : y ≤ 1048576 := by have := trim_le (max now th) L; rw [hy, HN.out] at this; omega
  have P3 := Lib.hid (fun B d W hs => Trim_k nx B x d X hx hlx th (trimF (max now th) L) y (by rw [← hX]; exact trim_trim now th L) hy W hs)
  have P4 := Lib.hid (fun W hs => Trim_k nx A n c L HN.out hl (max now th) (trimF (max now th) L) y rfl hy W hs)
  have P5 := Lib.hid (fun B d W hs => Check_k nx B x d X hx hlx 0 (by rw [← hX]; exact chk_trim now hk) W hs)
  have P6 := Lib.hid (fun B1 d1 B2 d2 W hs hs' => Same_k nx B1 y d1 (trimF (max now th) L) hy hly B2 d2 W hs hs')
  obtain ⟨nx2, L2, e2, hu⟩ : ∃ nx2 L2 e2, useF nx L m th = (nx2, L2, e2) := ⟨_, _, _, rfl⟩
  obtain ⟨nx3, L3, e3, hv⟩ : ∃ nx3 L3 e3, useF nx X m th = (nx3, L3, e3) := ⟨_, _, _, rfl⟩
  have HE := Lib.hid (show now ≤ th → e2 = e3 from fun h => by have := trim_use (n := m) hk h; rw [hX, hu, hv] at this; exact this.symm)
  have P7 := Lib.hid (fun W hs => Use_k nx A n c L HN.out hl m th nx2 L2 _ e2 hu rfl hcap.out W hs)
  have P8 := Lib.hid (fun B d hcd W hs => Use_k nx B x d X hx hlx m th nx3 L3 _ e3 hv rfl hcd W hs)
  generalize L2.length = n2 at P7
  generalize L3.length = n3 at P8
  clear hk hX hx hy hu hv
  obtain ⟨late, hlate⟩ : ∃ late, max now th = late := ⟨_, rfl⟩
  rw [hlate] at P3 P4 P6
  have HLt := Lib.hid hlate
  clear hlate
  go_enter Try.func8, Try.ntmps8
  go_wp2_with fail
  have HB := Lib.hid (Below.refl W.heap.size W)
  have S0 := Lib.hid (hs0.out)
  have na := nb0 W (.cells #[.int .i64 nx, .slice A n c] 24)
  have HB := Lib.hid (below_on HB.out na)
  have S0 := Lib.hid (S0.out.on na)
  have X0 := Lib.hid (show Blk (W.alloc (.cells #[.int .i64 nx, .slice A n c] 24)) W.heap.size 24 #[.int .i64 nx, .slice A n c] from Blk.new_at _ _ _ rfl)
  clear na
  have LW := Lib.hid X0.out.lt
  refine (live21 _).mono ?_; rintro _ w6 ⟨rfl, b⟩
  have HB := Lib.hid (below_on HB.out b)
  have S0 := Lib.hid (S0.out.on b)
  have X0 := Lib.hid (X0.out.below b X0.out.lt)
  have LW := Lib.hid (lt_on LW.out b)
  clear b
  obtain ⟨⟨q0, q1⟩, q2, q3⟩ := X0.out.facts2
  go_wp2_with fail
  refine (Few_n nx A n c hmx.out _).mono ?_; rintro _ w7 ⟨rfl, b⟩
  have HB := Lib.hid (below_on HB.out b)
  have S0 := Lib.hid (S0.out.on b)
  have X0 := Lib.hid (X0.out.below b X0.out.lt)
  have LW := Lib.hid (lt_on LW.out b)
  clear b
  rw [h100d.out]
  clear q0 q1 q2 q3
  obtain ⟨⟨q0, q1⟩, q2, q3⟩ := X0.out.facts2
  go_wp2_with fail
  refine (P1.out _ S0.out).mono ?_; rintro _ w8 ⟨rfl, b⟩
  have HB := Lib.hid (below_on HB.out b)
  have S0 := Lib.hid (S0.out.on b)
  have X0 := Lib.hid (X0.out.below b X0.out.lt)
  have LW := Lib.hid (lt_on LW.out b)
  clear b
  clear q0 q1 q2 q3
  obtain ⟨⟨q0, q1⟩, q2, q3⟩ := X0.out.facts2
  go_wp2_with fail
  refine (P2.out _ S0.out).mono ?_; rintro _ w9 ⟨B1, d1, rfl, hcc, hns, b⟩
  have HB := Lib.hid (below_on HB.out b)
  have S0 := Lib.hid (S0.out.on b)
  have X0 := Lib.hid (X0.out.below b X0.out.lt)
  have LW := Lib.hid (lt_on LW.out b)
  have T1c := Lib.hid hcc
  have T1 := Lib.hid (hns)
  clear b hcc hns
  clear q0 q1 q2 q3
  have na := nb0 w9 (.cells #[.int .i64 nx, .slice B1 x d1] 24)
  have HB := Lib.hid (below_on HB.out na)
  have S0 := Lib.hid (S0.out.on na)
  have X0 := Lib.hid (X0.out.below na X0.out.lt)
  have LW := Lib.hid (lt_on LW.out na)
  have T1 := Lib.hid (T1.out.on na)
  have Y1 := Lib.hid (show Blk (w9.alloc (.cells #[.int .i64 nx, .slice B1 x d1] 24)) w9.heap.size 24 #[.int .i64 nx, .slice B1 x d1] from Blk.new_at _ _ _ rfl)
  clear na
  go_wp2_with fail
  obtain ⟨⟨y0, y1⟩, y2, y3⟩ := Y1.out.facts2
  go_loop [10] (fun i => ∃ k : Nat, k ≤ x ∧ i = .int .i64 k) (fun i => x - (intOf i).toNat)
  case atStart => exact ⟨0, by omega, rfl⟩
  case round =>
    obtain ⟨k, hk, rfl⟩ := hrel
    by_cases hlt : k < x
    · have hltX : k < X.length := by rw [HX.out]; exact hlt
      obtain ⟨ad, rfl, had, c0, c1⟩ := T1.out k hltX
      have hf := HF.out k hltX
      generalize X[k].2 = u at c1 hf
      go_wp2_with fail
      go_round
      case rel => exact ⟨k + 1, by omega, by go_num⟩
      case measure => simp [intOf]; omega
    · obtain rfl : x = k := by omega
      go_wp2_with fail
      refine (P3.out _ _ _ T1.out).mono ?_; rintro _ w10 ⟨B2, d2, rfl, hcc, hns, b⟩
      have HB := Lib.hid (below_on HB.out b)
      have S0 := Lib.hid (S0.out.on b)
      have X0 := Lib.hid (X0.out.below b X0.out.lt)
      have LW := Lib.hid (lt_on LW.out b)
      have T1 := Lib.hid (T1.out.on b)
      have Y1 := Lib.hid (Y1.out.below b Y1.out.lt)
      have T2c := Lib.hid hcc
      have T2 := Lib.hid (hns)
      clear b hcc hns
      clear y0 y1 y2 y3
      have na := nb0 w10 (.cells #[.int .i64 nx, .slice B2 y d2] 24)
      have HB := Lib.hid (below_on HB.out na)
      have S0 := Lib.hid (S0.out.on na)
      have X0 := Lib.hid (X0.out.below na X0.out.lt)
      have LW := Lib.hid (lt_on LW.out na)
      have T1 := Lib.hid (T1.out.on na)
      have Y1 := Lib.hid (Y1.out.below na Y1.out.lt)
      have T2 := Lib.hid (T2.out.on na)
      have Y2 := Lib.hid (show Blk (w10.alloc (.cells #[.int .i64 nx, .slice B2 y d2] 24)) w10.heap.size 24 #[.int .i64 nx, .slice B2 y d2] from Blk.new_at _ _ _ rfl)
      clear na
      obtain ⟨⟨q0, q1⟩, q2, q3⟩ := X0.out.facts2
      have hlv := HLt.out
      go_wp2_with fail
      refine (P4.out _ S0.out).mono ?_; rintro _ w11 ⟨B3, d3, rfl, hcc, hns, b⟩
      have HB := Lib.hid (below_on HB.out b)
      have S0 := Lib.hid (S0.out.on b)
      have X0 := Lib.hid (X0.out.below b X0.out.lt)
      have LW := Lib.hid (lt_on LW.out b)
      have T1 := Lib.hid (T1.out.on b)
      have Y1 := Lib.hid (Y1.out.below b Y1.out.lt)
      have T2 := Lib.hid (T2.out.on b)
      have Y2 := Lib.hid (Y2.out.below b Y2.out.lt)
      have T3c := Lib.hid hcc
      have T3 := Lib.hid (hns)
      clear b hcc hns
      clear hlv
      clear q0 q1 q2 q3
      have na := nb0 w11 (.cells #[.int .i64 nx, .slice B3 y d3] 24)
      have HB := Lib.hid (below_on HB.out na)
      have S0 := Lib.hid (S0.out.on na)
      have X0 := Lib.hid (X0.out.below na X0.out.lt)
      have LW := Lib.hid (lt_on LW.out na)
      have T1 := Lib.hid (T1.out.on na)
      have Y1 := Lib.hid (Y1.out.below na Y1.out.lt)
      have T2 := Lib.hid (T2.out.on na)
      have Y2 := Lib.hid (Y2.out.below na Y2.out.lt)
      have T3 := Lib.hid (T3.out.on na)
      have Y3 := Lib.hid (show Blk (w11.alloc (.cells #[.int .i64 nx, .slice B3 y d3] 24)) w11.heap.size 24 #[.int .i64 nx, .slice B3 y d3] from Blk.new_at _ _ _ rfl)
      clear na
      obtain ⟨⟨y0, y1⟩, y2, y3⟩ := Y1.out.facts2
      go_wp2_with fail
      refine (P5.out _ _ _ T1.out).mono ?_; rintro _ w12 ⟨rfl, b⟩
      have HB := Lib.hid (below_on HB.out b)
      have S0 := Lib.hid (S0.out.on b)
      have X0 := Lib.hid (X0.out.below b X0.out.lt)
      have LW := Lib.hid (lt_on LW.out b)
      have T1 := Lib.hid (T1.out.on b)
      have Y1 := Lib.hid (Y1.out.below b Y1.out.lt)
      have T2 := Lib.hid (T2.out.on b)
      have Y2 := Lib.hid (Y2.out.below b Y2.out.lt)
      have T3 := Lib.hid (T3.out.on b)
      have Y3 := Lib.hid (Y3.out.below b Y3.out.lt)
      clear b
      clear y0 y1 y2 y3
      obtain ⟨⟨q0, q1⟩, q2, q3⟩ := Y2.out.facts2
      obtain ⟨⟨r0, r1⟩, r2, r3⟩ := Y3.out.facts2
      go_wp2_with fail
      refine (P6.out _ _ _ _ _ T2.out T3.out).mono ?_; rintro _ w13 ⟨rfl, b⟩
      have HB := Lib.hid (below_on HB.out b)
      have S0 := Lib.hid (S0.out.on b)
      have X0 := Lib.hid (X0.out.below b X0.out.lt)
      have LW := Lib.hid (lt_on LW.out b)
      have T1 := Lib.hid (T1.out.on b)
      have Y1 := Lib.hid (Y1.out.below b Y1.out.lt)
      have T2 := Lib.hid (T2.out.on b)
      have Y2 := Lib.hid (Y2.out.below b Y2.out.lt)
      have T3 := Lib.hid (T3.out.on b)
      have Y3 := Lib.hid (Y3.out.below b Y3.out.lt)
      clear b
      clear q0 q1 q2 q3
      clear r0 r1 r2 r3
      obtain ⟨⟨q0, q1⟩, q2, q3⟩ := X0.out.facts2
      go_wp2_with fail
      refine (P7.out _ S0.out).mono ?_; rintro _ w14 ⟨B4, d4, rfl, hcc, hns, b⟩
      have HB := Lib.hid (below_on HB.out b)
      have S0 := Lib.hid (S0.out.on b)
      have X0 := Lib.hid (X0.out.below b X0.out.lt)
      have LW := Lib.hid (lt_on LW.out b)
      have T1 := Lib.hid (T1.out.on b)
      have Y1 := Lib.hid (Y1.out.below b Y1.out.lt)
      have T2 := Lib.hid (T2.out.on b)
      have Y2 := Lib.hid (Y2.out.below b Y2.out.lt)
      have T3 := Lib.hid (T3.out.on b)
      have Y3 := Lib.hid (Y3.out.below b Y3.out.lt)
      have T4c := Lib.hid hcc
      have T4 := Lib.hid (hns)
      clear b hcc hns
      clear q0 q1 q2 q3
      have na := nb0 w14 (.cells #[.int .i64 nx2, .slice B4 n2 d4] 24)
      have HB := Lib.hid (below_on HB.out na)
      have S0 := Lib.hid (S0.out.on na)
      have X0 := Lib.hid (X0.out.below na X0.out.lt)
      have LW := Lib.hid (lt_on LW.out na)
      have T1 := Lib.hid (T1.out.on na)
      have Y1 := Lib.hid (Y1.out.below na Y1.out.lt)
      have T2 := Lib.hid (T2.out.on na)
      have Y2 := Lib.hid (Y2.out.below na Y2.out.lt)
      have T3 := Lib.hid (T3.out.on na)
      have Y3 := Lib.hid (Y3.out.below na Y3.out.lt)
      have T4 := Lib.hid (T4.out.on na)
      have Y4 := Lib.hid (show Blk (w14.alloc (.cells #[.int .i64 nx2, .slice B4 n2 d4] 24)) w14.heap.size 24 #[.int .i64 nx2, .slice B4 n2 d4] from Blk.new_at _ _ _ rfl)
      clear na
      obtain ⟨⟨y0, y1⟩, y2, y3⟩ := Y1.out.facts2
      go_wp2_with fail
      refine (P8.out _ _ T1c.out _ T1.out).mono ?_; rintro _ w15 ⟨B5, d5, rfl, hcc, hns, b⟩
      have HB := Lib.hid (below_on HB.out b)
      have S0 := Lib.hid (S0.out.on b)
      have X0 := Lib.hid (X0.out.below b X0.out.lt)
      have LW := Lib.hid (lt_on LW.out b)
      have T1 := Lib.hid (T1.out.on b)
      have Y1 := Lib.hid (Y1.out.below b Y1.out.lt)
      have T2 := Lib.hid (T2.out.on b)
      have Y2 := Lib.hid (Y2.out.below b Y2.out.lt)
      have T3 := Lib.hid (T3.out.on b)
      have Y3 := Lib.hid (Y3.out.below b Y3.out.lt)
      have T4 := Lib.hid (T4.out.on b)
      have Y4 := Lib.hid (Y4.out.below b Y4.out.lt)
      have T5c := Lib.hid hcc
      have T5 := Lib.hid (hns)
      clear b hcc hns
      clear y0 y1 y2 y3
      by_cases hth : th < now
      · have g1 : decide (th < now) = true := decide_eq_true hth
        go_wp2_with fail
        go_ret
        exact ⟨rfl, HB.out.alloc HB.out.size _⟩
      · have g1 : decide (th < now) = false := decide_eq_false hth
        obtain rfl := HE.out (by omega)
        go_wp2_with fail
        go_ret
        exact ⟨by simp, HB.out.alloc HB.out.size _⟩
end Go.Proofs.Ytdiafbeohldbjaa

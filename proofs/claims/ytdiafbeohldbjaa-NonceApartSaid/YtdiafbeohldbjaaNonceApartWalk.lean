/- The walk of NonceApart. (Printed by tools/gen_nonce_laws.py.) -/
import Derived.Test.YtdiafbeohldbjaaNonceLive
import Derived.Test.YtdiafbeohldbjaaNonceLaw
namespace Go.Proofs.Ytdiafbeohldbjaa
open Go.ChangeShapes Go.WideShapes Go.ChangeAt Go.RowKit Gs
set_option linter.unusedVariables false
set_option linter.unusedSimpArgs false

set_option maxRecDepth 100000 in
set_option maxHeartbeats 8000000 in
theorem apart_walk21 (nx : Int) (A : Option Addr) (n c : Nat) (L : List (Int × Int)) (hn : L.length = n) (p now m th : Int) (W : World) (hs : NS W W.heap.size A L) (hc : n ≤ c) (hm : c ≤ maxLen) :
    Calls Try.prog 7 #[fv nx A n c, .int .i64 p, .int .i64 now, .int .i64 m, .int .i64 th] W fun e w' => e = .returned (.bool true) ∧ Below W.heap.size W w' := by
  have hs0 := Lib.hid hs
  have hmx := Lib.hid (show n ≤ maxLen by omega)
  have hcap := Lib.hid (And.intro hc hm)
  have HN := Lib.hid hn
  clear hs hn
  by_cases h100 : n ≤ 100
  rotate_left 1
  · have h100d := Lib.hid (decide_eq_false h100)
    go_enter Try.func7, Try.ntmps7
    go_wp2_with fail
    have HB := Lib.hid (Below.refl W.heap.size W)
    have S0 := Lib.hid (hs0.out)
    have na := nb0 W (.cells #[.int .i64 nx, .slice A n c] 24)
    have HB := Lib.hid (below_on HB.out na)
    have S0 := Lib.hid (S0.out.on na)
    have X0 := Lib.hid (show Blk (W.alloc (.cells #[.int .i64 nx, .slice A n c] 24)) W.heap.size 24 #[.int .i64 nx, .slice A n c] from Blk.new_at _ _ _ rfl)
    clear na
    have LW := Lib.hid X0.out.lt
    refine (live21 _).mono ?_; rintro _ w1 ⟨rfl, b⟩
    have HB := Lib.hid (below_on HB.out b)
    have S0 := Lib.hid (S0.out.on b)
    have X0 := Lib.hid (X0.out.below b X0.out.lt)
    have LW := Lib.hid (lt_on LW.out b)
    clear b
    obtain ⟨⟨q0, q1⟩, q2, q3⟩ := X0.out.facts2
    go_wp2_with fail
    refine (Few_n nx A n c hmx.out _).mono ?_; rintro _ w2 ⟨rfl, b⟩
    have HB := Lib.hid (below_on HB.out b)
    have S0 := Lib.hid (S0.out.on b)
    have X0 := Lib.hid (X0.out.below b X0.out.lt)
    have LW := Lib.hid (lt_on LW.out b)
    clear b
    rw [h100d.out]
    clear q0 q1 q2 q3
    go_wp2_with fail
    go_ret
    exact ⟨rfl, HB.out⟩
  have h100d := Lib.hid (decide_eq_true h100)
  have hl : n ≤ 1048576 := by omega
  clear hm
  rcases use_cases nx L p now with ⟨hk, hn, hg, hu⟩ | ⟨e, he, hu⟩
  rotate_left 1
  · have P1 := Lib.hid (fun W hs => Use_k nx A n c L HN.out hl p now 0 [] 0 e hu rfl hcap.out W hs)
    have hee : (e != 0) = true := by simpa using he
    clear hu he
    go_enter Try.func7, Try.ntmps7
    go_wp2_with fail
    have HB := Lib.hid (Below.refl W.heap.size W)
    have S0 := Lib.hid (hs0.out)
    have na := nb0 W (.cells #[.int .i64 nx, .slice A n c] 24)
    have HB := Lib.hid (below_on HB.out na)
    have S0 := Lib.hid (S0.out.on na)
    have X0 := Lib.hid (show Blk (W.alloc (.cells #[.int .i64 nx, .slice A n c] 24)) W.heap.size 24 #[.int .i64 nx, .slice A n c] from Blk.new_at _ _ _ rfl)
    clear na
    have LW := Lib.hid X0.out.lt
    refine (live21 _).mono ?_; rintro _ w3 ⟨rfl, b⟩
    have HB := Lib.hid (below_on HB.out b)
    have S0 := Lib.hid (S0.out.on b)
    have X0 := Lib.hid (X0.out.below b X0.out.lt)
    have LW := Lib.hid (lt_on LW.out b)
    clear b
    obtain ⟨⟨q0, q1⟩, q2, q3⟩ := X0.out.facts2
    go_wp2_with fail
    refine (Few_n nx A n c hmx.out _).mono ?_; rintro _ w4 ⟨rfl, b⟩
    have HB := Lib.hid (below_on HB.out b)
    have S0 := Lib.hid (S0.out.on b)
    have X0 := Lib.hid (X0.out.below b X0.out.lt)
    have LW := Lib.hid (lt_on LW.out b)
    clear b
    rw [h100d.out]
    clear q0 q1 q2 q3
    obtain ⟨⟨q0, q1⟩, q2, q3⟩ := X0.out.facts2
    go_wp2_with fail
    refine (P1.out _ S0.out).mono ?_; rintro _ w5 ⟨B1, d1, rfl, hcc, hns, b⟩
    have HB := Lib.hid (below_on HB.out b)
    have S0 := Lib.hid (S0.out.on b)
    have X0 := Lib.hid (X0.out.below b X0.out.lt)
    have LW := Lib.hid (lt_on LW.out b)
    have T1c := Lib.hid hcc
    have T1 := Lib.hid (hns)
    clear b hcc hns
    clear q0 q1 q2 q3
    go_wp2_with fail
    go_ret
    exact ⟨rfl, HB.out.alloc HB.out.size _⟩
  obtain ⟨L1, hL1⟩ : ∃ L1, L.filter (fun x => !hitF p now x) = L1 := ⟨_, rfl⟩
  obtain ⟨u1, hu1⟩ : ∃ u1, L1.length = u1 := ⟨_, rfl⟩
  have hf := hit_filter hk hg
  rw [hL1] at hf
  rw [hL1] at hu
  have hlen := hf.2
  rw [← hf.1, hu1, HN.out] at hlen
  have HF := Lib.hid hf.1
  have HU1 := Lib.hid hu1
  obtain ⟨nx2, L2, e2, hu2⟩ : ∃ nx2 L2 e2, useF nx L m th = (nx2, L2, e2) := ⟨_, _, _, rfl⟩
  obtain ⟨nx3, L3, e3, hu3⟩ : ∃ nx3 L3 e3, useF nx L1 m th = (nx3, L3, e3) := ⟨_, _, _, rfl⟩
  have HE := Lib.hid (show m ≠ p → e2 = e3 from fun h => by have := apart_use (n := p) (now := now) (then_ := th) hk h; rw [hL1, hu2, hu3] at this; exact this.symm)
  have P1 := Lib.hid (fun W hs => Use_k nx A n c L HN.out hl p now nx L1 u1 0 hu hu1 hcap.out W hs)
  have P2 := Lib.hid (fun W hs => Use_k nx A n c L HN.out hl m th nx2 L2 _ e2 hu2 rfl hcap.out W hs)
  have P3 := Lib.hid (fun B d hcd W hs => Use_k nx B u1 d L1 hu1 (by omega) m th nx3 L3 _ e3 hu3 rfl hcd W hs)
  generalize L2.length = u2 at P2
  generalize L3.length = u3 at P3
  clear hk hn hg hu hL1 hu1 hf hu2 hu3
  go_enter Try.func7, Try.ntmps7
  go_wp2_with fail
  have HB := Lib.hid (Below.refl W.heap.size W)
  have S0 := Lib.hid (hs0.out)
  have na := nb0 W (.cells #[.int .i64 nx, .slice A n c] 24)
  have HB := Lib.hid (below_on HB.out na)
  have S0 := Lib.hid (S0.out.on na)
  have X0 := Lib.hid (show Blk (W.alloc (.cells #[.int .i64 nx, .slice A n c] 24)) W.heap.size 24 #[.int .i64 nx, .slice A n c] from Blk.new_at _ _ _ rfl)
  clear na
  have LW := Lib.hid X0.out.lt
  refine (live21 _).mono ?_; rintro _ w6 ⟨rfl, b⟩
  have HB := Lib.hid (below_on HB.out b)
  have S0 := Lib.hid (S0.out.on b)
  have X0 := Lib.hid (X0.out.below b X0.out.lt)
  have LW := Lib.hid (lt_on LW.out b)
  clear b
  obtain ⟨⟨q0, q1⟩, q2, q3⟩ := X0.out.facts2
  go_wp2_with fail
  refine (Few_n nx A n c hmx.out _).mono ?_; rintro _ w7 ⟨rfl, b⟩
  have HB := Lib.hid (below_on HB.out b)
  have S0 := Lib.hid (S0.out.on b)
  have X0 := Lib.hid (X0.out.below b X0.out.lt)
  have LW := Lib.hid (lt_on LW.out b)
  clear b
  rw [h100d.out]
  clear q0 q1 q2 q3
  obtain ⟨⟨q0, q1⟩, q2, q3⟩ := X0.out.facts2
  go_wp2_with fail
  refine (P1.out _ S0.out).mono ?_; rintro _ w8 ⟨B1, d1, rfl, hcc, hns, b⟩
  have HB := Lib.hid (below_on HB.out b)
  have S0 := Lib.hid (S0.out.on b)
  have X0 := Lib.hid (X0.out.below b X0.out.lt)
  have LW := Lib.hid (lt_on LW.out b)
  have T1c := Lib.hid hcc
  have T1 := Lib.hid (hns)
  clear b hcc hns
  clear q0 q1 q2 q3
  have na := nb0 w8 (.cells #[.int .i64 nx, .slice B1 u1 d1] 24)
  have HB := Lib.hid (below_on HB.out na)
  have S0 := Lib.hid (S0.out.on na)
  have X0 := Lib.hid (X0.out.below na X0.out.lt)
  have LW := Lib.hid (lt_on LW.out na)
  have T1 := Lib.hid (T1.out.on na)
  have Y1 := Lib.hid (show Blk (w8.alloc (.cells #[.int .i64 nx, .slice B1 u1 d1] 24)) w8.heap.size 24 #[.int .i64 nx, .slice B1 u1 d1] from Blk.new_at _ _ _ rfl)
  clear na
  obtain ⟨⟨q0, q1⟩, q2, q3⟩ := X0.out.facts2
  go_wp2_with fail
  refine (P2.out _ S0.out).mono ?_; rintro _ w9 ⟨B2, d2, rfl, hcc, hns, b⟩
  have HB := Lib.hid (below_on HB.out b)
  have S0 := Lib.hid (S0.out.on b)
  have X0 := Lib.hid (X0.out.below b X0.out.lt)
  have LW := Lib.hid (lt_on LW.out b)
  have T1 := Lib.hid (T1.out.on b)
  have Y1 := Lib.hid (Y1.out.below b Y1.out.lt)
  have T2c := Lib.hid hcc
  have T2 := Lib.hid (hns)
  clear b hcc hns
  clear q0 q1 q2 q3
  have na := nb0 w9 (.cells #[.int .i64 nx2, .slice B2 u2 d2] 24)
  have HB := Lib.hid (below_on HB.out na)
  have S0 := Lib.hid (S0.out.on na)
  have X0 := Lib.hid (X0.out.below na X0.out.lt)
  have LW := Lib.hid (lt_on LW.out na)
  have T1 := Lib.hid (T1.out.on na)
  have Y1 := Lib.hid (Y1.out.below na Y1.out.lt)
  have T2 := Lib.hid (T2.out.on na)
  have Y2 := Lib.hid (show Blk (w9.alloc (.cells #[.int .i64 nx2, .slice B2 u2 d2] 24)) w9.heap.size 24 #[.int .i64 nx2, .slice B2 u2 d2] from Blk.new_at _ _ _ rfl)
  clear na
  obtain ⟨⟨q0, q1⟩, q2, q3⟩ := Y1.out.facts2
  go_wp2_with fail
  refine (P3.out _ _ T1c.out _ T1.out).mono ?_; rintro _ w10 ⟨B3, d3, rfl, hcc, hns, b⟩
  have HB := Lib.hid (below_on HB.out b)
  have S0 := Lib.hid (S0.out.on b)
  have X0 := Lib.hid (X0.out.below b X0.out.lt)
  have LW := Lib.hid (lt_on LW.out b)
  have T1 := Lib.hid (T1.out.on b)
  have Y1 := Lib.hid (Y1.out.below b Y1.out.lt)
  have T2 := Lib.hid (T2.out.on b)
  have Y2 := Lib.hid (Y2.out.below b Y2.out.lt)
  have T3c := Lib.hid hcc
  have T3 := Lib.hid (hns)
  clear b hcc hns
  clear q0 q1 q2 q3
  have na := nb0 w10 (.cells #[.int .i64 nx3, .slice B3 u3 d3] 24)
  have HB := Lib.hid (below_on HB.out na)
  have S0 := Lib.hid (S0.out.on na)
  have X0 := Lib.hid (X0.out.below na X0.out.lt)
  have LW := Lib.hid (lt_on LW.out na)
  have T1 := Lib.hid (T1.out.on na)
  have Y1 := Lib.hid (Y1.out.below na Y1.out.lt)
  have T2 := Lib.hid (T2.out.on na)
  have Y2 := Lib.hid (Y2.out.below na Y2.out.lt)
  have T3 := Lib.hid (T3.out.on na)
  have Y3 := Lib.hid (show Blk (w10.alloc (.cells #[.int .i64 nx3, .slice B3 u3 d3] 24)) w10.heap.size 24 #[.int .i64 nx3, .slice B3 u3 d3] from Blk.new_at _ _ _ rfl)
  clear na
  go_wp2_with fail
  generalize (w10.alloc (.cells #[.int .i64 nx3, .slice B3 u3 d3] 24)) = w11 at HB S0 X0 LW T1 Y1 T2 Y2 T3 Y3 ⊢
  have HBf := Lib.hid HB.out
  go_loopw [17, 18] (fun k i wr => ∃ (a b : Nat), a ≤ n ∧ i = .int .i64 a ∧ k = .int .i64 b ∧ b = ((L.take a).filter (fun x => decide (x.1 ≠ p))).length ∧ Below w11.heap.size w11 wr) (fun _ i _ => n - (intOf i).toNat)
  case atStart => exact ⟨0, 0, by omega, rfl, rfl, by simp, Below.refl _ _⟩
  case round =>
    obtain ⟨a, b, ha, rfl, rfl, hb, hbr⟩ := hrel
    have BR := Lib.hid hbr
    have XR := Lib.hid (X0.out.below hbr X0.out.lt)
    have YR := Lib.hid (Y1.out.below hbr Y1.out.lt)
    have SR := Lib.hid (S0.out.on hbr)
    have TR := Lib.hid (T1.out.on hbr)
    have HBb := Lib.hid hb
    clear hbr hb
    obtain ⟨⟨q0, q1⟩, q2, q3⟩ := XR.out.facts2
    obtain ⟨⟨y0, y1⟩, y2, y3⟩ := YR.out.facts2
    by_cases hlt : a < n
    · have hltL : a < L.length := by rw [HN.out]; exact hlt
      obtain ⟨ad, rfl, had, c0, c1⟩ := SR.out a hltL
      have HTk := Lib.hid (show (L.take (a + 1)).filter (fun x => decide (x.1 ≠ p)) = (L.take a).filter (fun x => decide (x.1 ≠ p)) ++ (if L[a].1 ≠ p then [L[a]] else []) by rw [List.take_succ_eq_append_getElem hltL, List.filter_append]; by_cases h : L[a].1 = p <;> simp [h])
      by_cases hp : L[a].1 = p
      · have HS' := Lib.hid (show b = ((L.take (a + 1)).filter (fun x => decide (x.1 ≠ p))).length by rw [HTk.out, HBb.out]; simp [hp])
        have hpb : (L[a].1 == p) = true := by simpa using hp
        clear hp
        generalize L[a].1 = x at c0 hpb
        go_wp2_with fail
        go_roundw
        case rel => exact ⟨a + 1, b, by omega, by go_num, rfl, HS'.out, BR.out⟩
        case measure => simp [intOf]; omega
      · have HS' := Lib.hid (show b + 1 = ((L.take (a + 1)).filter (fun x => decide (x.1 ≠ p))).length by rw [HTk.out, HBb.out]; simp [hp])
        have hg := filter_get (fun x => decide (x.1 ≠ p)) L a hltL (by simpa using hp)
        rw [← HBb.out, ← HF.out] at hg
        obtain ⟨hbu, hge⟩ := List.getElem?_eq_some_iff.1 hg
        obtain ⟨ad', rfl, _, d0, d1'⟩ := TR.out b hbu
        rw [hge] at d0 d1'
        have hbn : b < u1 := by rw [← HU1.out]; exact hbu
        have hbd : decide (u1 ≤ b) = false := decide_eq_false (by omega)
        have hbd2 : decide ((u1 : Int) ≤ (b : Int)) = false := decide_eq_false (by omega)
        have hpb : (L[a].1 == p) = false := by simpa using hp
        clear hp hg hge hbu HTk
        generalize L[a].1 = x, L[a].2 = y at c0 c1 d0 d1' hpb
        go_wp2_with fail
        go_quiet (fail)
        go_wp2_with fail
        go_roundw
        case rel => exact ⟨a + 1, b + 1, by omega, by go_num, by go_num, HS'.out, below_drewN BR.out _⟩
        case measure => simp [intOf]; omega
    · obtain rfl : n = a := by omega
      have HU := Lib.hid (show b = u1 by rw [HBb.out, ← HN.out, List.take_length, ← HF.out, HU1.out])
      obtain rfl := HU.out
      have hq1 : ((b : Int) == (n : Int) - 1) = true := by rw [beq_iff_eq]; omega
      by_cases hmp : m = p
      · have hmb : (m == p) = true := by simpa using hmp
        clear hmp
        go_wp2_with fail
        go_ret
        exact ⟨by first | rfl | simp, HBf.out.trans (BR.out.mono HBf.out.size)⟩
      · have hmb : (m == p) = false := by simpa using hmp
        obtain rfl := HE.out hmp
        clear hmp
        go_wp2_with fail
        go_ret
        exact ⟨by first | rfl | simp, HBf.out.trans (BR.out.mono HBf.out.size)⟩
end Go.Proofs.Ytdiafbeohldbjaa

/- The walk of NonceBound. (Printed by tools/gen_nonce_laws.py.) -/
import Derived.Test.YtdiafbeohldbjaaNonceLive
import Derived.Test.YtdiafbeohldbjaaNonceLaw
import Derived.Test.YtdiafbeohldbjaaNonceBoundMath
import Derived.Test.YtdiafbeohldbjaaNonceFr
namespace Go.Proofs.Ytdiafbeohldbjaa
open Go.ChangeShapes Go.WideShapes Go.ChangeAt Go.RowKit Gs
set_option linter.unusedVariables false
set_option linter.unusedSimpArgs false

set_option maxRecDepth 100000 in
set_option maxHeartbeats 8000000 in
theorem bound_walk21 (nx : Int) (A : Option Addr) (n c : Nat) (L : List (Int × Int)) (hn : L.length = n) (now life : Int) (W : World) (hs : NS W W.heap.size A L) (hc : n ≤ c) (hm : c ≤ maxLen) :
    Calls Try.prog 9 #[fv nx A n c, .int .i64 now, .int .i64 life] W fun e w' => e = .returned (.bool true) ∧ Below W.heap.size W w' := by
  have hs0 := Lib.hid hs
  have hmx := Lib.hid (show n ≤ maxLen by omega)
  have hcap := Lib.hid (And.intro hc hm)
  have HN := Lib.hid hn
  clear hs hn
  by_cases h100 : n ≤ 100
  rotate_left 1
  · have h100d := Lib.hid (decide_eq_false h100)
    go_enter Try.func9, Try.ntmps9
    go_wp2_with fail
    have HB := Lib.hid (Below.refl W.heap.size W)
    have S0 := Lib.hid (hs0.out)
    have na := nb0 W (.cells #[.int .i64 nx, .slice A n c] 24)
    have HB := Lib.hid (below_on HB.out na)
    have S0 := Lib.hid (S0.out.on na)
    have X0 := Lib.hid (show Blk (W.alloc (.cells #[.int .i64 nx, .slice A n c] 24)) W.heap.size 24 #[.int .i64 nx, .slice A n c] from Blk.new_at _ _ _ rfl)
    clear na
    have LW := Lib.hid X0.out.lt
    refine (live21 _).mono ?_; rintro _ w1 ⟨rfl, b⟩
    have HB := Lib.hid (below_on HB.out b)
    have S0 := Lib.hid (S0.out.on b)
    have X0 := Lib.hid (X0.out.below b X0.out.lt)
    have LW := Lib.hid (lt_on LW.out b)
    clear b
    obtain ⟨⟨q0, q1⟩, q2, q3⟩ := X0.out.facts2
    go_wp2_with fail
    refine (Few_n nx A n c hmx.out _).mono ?_; rintro _ w2 ⟨rfl, b⟩
    have HB := Lib.hid (below_on HB.out b)
    have S0 := Lib.hid (S0.out.on b)
    have X0 := Lib.hid (X0.out.below b X0.out.lt)
    have LW := Lib.hid (lt_on LW.out b)
    clear b
    rw [h100d.out]
    clear q0 q1 q2 q3
    go_wp2_with fail
    go_ret
    exact ⟨rfl, HB.out⟩
  have h100d := Lib.hid (decide_eq_true h100)
  have hl : n ≤ 1048576 := by omega
  clear hm
  obtain ⟨r, hr⟩ : ∃ r, chkF nx L = r := ⟨_, rfl⟩
  have P0 := Lib.hid (fun W hs => Check_k nx A n c L HN.out hl r hr W hs)
  by_cases hr0 : r = 0
  rotate_left 1
  · have g0 : (r != 0) = true := by simpa using hr0
    have HR := Lib.hid hr
    clear hr hr0
    go_enter Try.func9, Try.ntmps9
    go_wp2_with fail
    have HB := Lib.hid (Below.refl W.heap.size W)
    have S0 := Lib.hid (hs0.out)
    have na := nb0 W (.cells #[.int .i64 nx, .slice A n c] 24)
    have HB := Lib.hid (below_on HB.out na)
    have S0 := Lib.hid (S0.out.on na)
    have X0 := Lib.hid (show Blk (W.alloc (.cells #[.int .i64 nx, .slice A n c] 24)) W.heap.size 24 #[.int .i64 nx, .slice A n c] from Blk.new_at _ _ _ rfl)
    clear na
    have LW := Lib.hid X0.out.lt
    refine (live21 _).mono ?_; rintro _ w3 ⟨rfl, b⟩
    have HB := Lib.hid (below_on HB.out b)
    have S0 := Lib.hid (S0.out.on b)
    have X0 := Lib.hid (X0.out.below b X0.out.lt)
    have LW := Lib.hid (lt_on LW.out b)
    clear b
    obtain ⟨⟨q0, q1⟩, q2, q3⟩ := X0.out.facts2
    go_wp2_with fail
    refine (Few_n nx A n c hmx.out _).mono ?_; rintro _ w4 ⟨rfl, b⟩
    have HB := Lib.hid (below_on HB.out b)
    have S0 := Lib.hid (S0.out.on b)
    have X0 := Lib.hid (X0.out.below b X0.out.lt)
    have LW := Lib.hid (lt_on LW.out b)
    clear b
    rw [h100d.out]
    clear q0 q1 q2 q3
    obtain ⟨⟨q0, q1⟩, q2, q3⟩ := X0.out.facts2
    go_wp2_with fail
    refine (P0.out _ S0.out).mono ?_; rintro _ w5 ⟨rfl, b⟩
    have HB := Lib.hid (below_on HB.out b)
    have S0 := Lib.hid (S0.out.on b)
    have X0 := Lib.hid (X0.out.below b X0.out.lt)
    have LW := Lib.hid (lt_on LW.out b)
    clear b
    go_wp2_with fail
    go_ret
    exact ⟨rfl, HB.out⟩
  subst hr0
  by_cases hq : 0 ≤ now
  rotate_left 1
  · have HR := Lib.hid hr
    clear hr
    have hq : now < 0 := by omega
    go_enter Try.func9, Try.ntmps9
    go_wp2_with fail
    have HB := Lib.hid (Below.refl W.heap.size W)
    have S0 := Lib.hid (hs0.out)
    have na := nb0 W (.cells #[.int .i64 nx, .slice A n c] 24)
    have HB := Lib.hid (below_on HB.out na)
    have S0 := Lib.hid (S0.out.on na)
    have X0 := Lib.hid (show Blk (W.alloc (.cells #[.int .i64 nx, .slice A n c] 24)) W.heap.size 24 #[.int .i64 nx, .slice A n c] from Blk.new_at _ _ _ rfl)
    clear na
    have LW := Lib.hid X0.out.lt
    refine (live21 _).mono ?_; rintro _ w6 ⟨rfl, b⟩
    have HB := Lib.hid (below_on HB.out b)
    have S0 := Lib.hid (S0.out.on b)
    have X0 := Lib.hid (X0.out.below b X0.out.lt)
    have LW := Lib.hid (lt_on LW.out b)
    clear b
    obtain ⟨⟨q0, q1⟩, q2, q3⟩ := X0.out.facts2
    go_wp2_with fail
    refine (Few_n nx A n c hmx.out _).mono ?_; rintro _ w7 ⟨rfl, b⟩
    have HB := Lib.hid (below_on HB.out b)
    have S0 := Lib.hid (S0.out.on b)
    have X0 := Lib.hid (X0.out.below b X0.out.lt)
    have LW := Lib.hid (lt_on LW.out b)
    clear b
    rw [h100d.out]
    clear q0 q1 q2 q3
    obtain ⟨⟨q0, q1⟩, q2, q3⟩ := X0.out.facts2
    go_wp2_with fail
    refine (P0.out _ S0.out).mono ?_; rintro _ w8 ⟨rfl, b⟩
    have HB := Lib.hid (below_on HB.out b)
    have S0 := Lib.hid (S0.out.on b)
    have X0 := Lib.hid (X0.out.below b X0.out.lt)
    have LW := Lib.hid (lt_on LW.out b)
    clear b
    clear q0 q1 q2 q3
    obtain ⟨⟨q0, q1⟩, q2, q3⟩ := X0.out.facts2
    go_wp2_with fail
    go_ret
    exact ⟨rfl, HB.out⟩
  have hn0 := hq
  clear hq
  by_cases hq : 1 ≤ life
  rotate_left 1
  · have HR := Lib.hid hr
    clear hr
    have hq : life < 1 := by omega
    go_enter Try.func9, Try.ntmps9
    go_wp2_with fail
    have HB := Lib.hid (Below.refl W.heap.size W)
    have S0 := Lib.hid (hs0.out)
    have na := nb0 W (.cells #[.int .i64 nx, .slice A n c] 24)
    have HB := Lib.hid (below_on HB.out na)
    have S0 := Lib.hid (S0.out.on na)
    have X0 := Lib.hid (show Blk (W.alloc (.cells #[.int .i64 nx, .slice A n c] 24)) W.heap.size 24 #[.int .i64 nx, .slice A n c] from Blk.new_at _ _ _ rfl)
    clear na
    have LW := Lib.hid X0.out.lt
    refine (live21 _).mono ?_; rintro _ w9 ⟨rfl, b⟩
    have HB := Lib.hid (below_on HB.out b)
    have S0 := Lib.hid (S0.out.on b)
    have X0 := Lib.hid (X0.out.below b X0.out.lt)
    have LW := Lib.hid (lt_on LW.out b)
    clear b
    obtain ⟨⟨q0, q1⟩, q2, q3⟩ := X0.out.facts2
    go_wp2_with fail
    refine (Few_n nx A n c hmx.out _).mono ?_; rintro _ w10 ⟨rfl, b⟩
    have HB := Lib.hid (below_on HB.out b)
    have S0 := Lib.hid (S0.out.on b)
    have X0 := Lib.hid (X0.out.below b X0.out.lt)
    have LW := Lib.hid (lt_on LW.out b)
    clear b
    rw [h100d.out]
    clear q0 q1 q2 q3
    obtain ⟨⟨q0, q1⟩, q2, q3⟩ := X0.out.facts2
    go_wp2_with fail
    refine (P0.out _ S0.out).mono ?_; rintro _ w11 ⟨rfl, b⟩
    have HB := Lib.hid (below_on HB.out b)
    have S0 := Lib.hid (S0.out.on b)
    have X0 := Lib.hid (X0.out.below b X0.out.lt)
    have LW := Lib.hid (lt_on LW.out b)
    clear b
    clear q0 q1 q2 q3
    obtain ⟨⟨q0, q1⟩, q2, q3⟩ := X0.out.facts2
    go_wp2_with fail
    go_ret
    exact ⟨rfl, HB.out⟩
  have hl0 := hq
  clear hq
  by_cases hq : now ≤ 1073741824
  rotate_left 1
  · have HR := Lib.hid hr
    clear hr
    have hq : 1073741824 < now := by omega
    go_enter Try.func9, Try.ntmps9
    go_wp2_with fail
    have HB := Lib.hid (Below.refl W.heap.size W)
    have S0 := Lib.hid (hs0.out)
    have na := nb0 W (.cells #[.int .i64 nx, .slice A n c] 24)
    have HB := Lib.hid (below_on HB.out na)
    have S0 := Lib.hid (S0.out.on na)
    have X0 := Lib.hid (show Blk (W.alloc (.cells #[.int .i64 nx, .slice A n c] 24)) W.heap.size 24 #[.int .i64 nx, .slice A n c] from Blk.new_at _ _ _ rfl)
    clear na
    have LW := Lib.hid X0.out.lt
    refine (live21 _).mono ?_; rintro _ w12 ⟨rfl, b⟩
    have HB := Lib.hid (below_on HB.out b)
    have S0 := Lib.hid (S0.out.on b)
    have X0 := Lib.hid (X0.out.below b X0.out.lt)
    have LW := Lib.hid (lt_on LW.out b)
    clear b
    obtain ⟨⟨q0, q1⟩, q2, q3⟩ := X0.out.facts2
    go_wp2_with fail
    refine (Few_n nx A n c hmx.out _).mono ?_; rintro _ w13 ⟨rfl, b⟩
    have HB := Lib.hid (below_on HB.out b)
    have S0 := Lib.hid (S0.out.on b)
    have X0 := Lib.hid (X0.out.below b X0.out.lt)
    have LW := Lib.hid (lt_on LW.out b)
    clear b
    rw [h100d.out]
    clear q0 q1 q2 q3
    obtain ⟨⟨q0, q1⟩, q2, q3⟩ := X0.out.facts2
    go_wp2_with fail
    refine (P0.out _ S0.out).mono ?_; rintro _ w14 ⟨rfl, b⟩
    have HB := Lib.hid (below_on HB.out b)
    have S0 := Lib.hid (S0.out.on b)
    have X0 := Lib.hid (X0.out.below b X0.out.lt)
    have LW := Lib.hid (lt_on LW.out b)
    clear b
    clear q0 q1 q2 q3
    obtain ⟨⟨q0, q1⟩, q2, q3⟩ := X0.out.facts2
    go_wp2_with fail
    go_ret
    exact ⟨rfl, HB.out⟩
  have hn1 := hq
  clear hq
  by_cases hq : life ≤ 1073741824
  rotate_left 1
  · have HR := Lib.hid hr
    clear hr
    have hq : 1073741824 < life := by omega
    go_enter Try.func9, Try.ntmps9
    go_wp2_with fail
    have HB := Lib.hid (Below.refl W.heap.size W)
    have S0 := Lib.hid (hs0.out)
    have na := nb0 W (.cells #[.int .i64 nx, .slice A n c] 24)
    have HB := Lib.hid (below_on HB.out na)
    have S0 := Lib.hid (S0.out.on na)
    have X0 := Lib.hid (show Blk (W.alloc (.cells #[.int .i64 nx, .slice A n c] 24)) W.heap.size 24 #[.int .i64 nx, .slice A n c] from Blk.new_at _ _ _ rfl)
    clear na
    have LW := Lib.hid X0.out.lt
    refine (live21 _).mono ?_; rintro _ w15 ⟨rfl, b⟩
    have HB := Lib.hid (below_on HB.out b)
    have S0 := Lib.hid (S0.out.on b)
    have X0 := Lib.hid (X0.out.below b X0.out.lt)
    have LW := Lib.hid (lt_on LW.out b)
    clear b
    obtain ⟨⟨q0, q1⟩, q2, q3⟩ := X0.out.facts2
    go_wp2_with fail
    refine (Few_n nx A n c hmx.out _).mono ?_; rintro _ w16 ⟨rfl, b⟩
    have HB := Lib.hid (below_on HB.out b)
    have S0 := Lib.hid (S0.out.on b)
    have X0 := Lib.hid (X0.out.below b X0.out.lt)
    have LW := Lib.hid (lt_on LW.out b)
    clear b
    rw [h100d.out]
    clear q0 q1 q2 q3
    obtain ⟨⟨q0, q1⟩, q2, q3⟩ := X0.out.facts2
    go_wp2_with fail
    refine (P0.out _ S0.out).mono ?_; rintro _ w17 ⟨rfl, b⟩
    have HB := Lib.hid (below_on HB.out b)
    have S0 := Lib.hid (S0.out.on b)
    have X0 := Lib.hid (X0.out.below b X0.out.lt)
    have LW := Lib.hid (lt_on LW.out b)
    clear b
    clear q0 q1 q2 q3
    obtain ⟨⟨q0, q1⟩, q2, q3⟩ := X0.out.facts2
    go_wp2_with fail
    go_ret
    exact ⟨rfl, HB.out⟩
  have hl1 := hq
  clear hq
  by_cases hq : nx ≤ 1073741824
  rotate_left 1
  · have HR := Lib.hid hr
    clear hr
    have hq : 1073741824 < nx := by omega
    go_enter Try.func9, Try.ntmps9
    go_wp2_with fail
    have HB := Lib.hid (Below.refl W.heap.size W)
    have S0 := Lib.hid (hs0.out)
    have na := nb0 W (.cells #[.int .i64 nx, .slice A n c] 24)
    have HB := Lib.hid (below_on HB.out na)
    have S0 := Lib.hid (S0.out.on na)
    have X0 := Lib.hid (show Blk (W.alloc (.cells #[.int .i64 nx, .slice A n c] 24)) W.heap.size 24 #[.int .i64 nx, .slice A n c] from Blk.new_at _ _ _ rfl)
    clear na
    have LW := Lib.hid X0.out.lt
    refine (live21 _).mono ?_; rintro _ w18 ⟨rfl, b⟩
    have HB := Lib.hid (below_on HB.out b)
    have S0 := Lib.hid (S0.out.on b)
    have X0 := Lib.hid (X0.out.below b X0.out.lt)
    have LW := Lib.hid (lt_on LW.out b)
    clear b
    obtain ⟨⟨q0, q1⟩, q2, q3⟩ := X0.out.facts2
    go_wp2_with fail
    refine (Few_n nx A n c hmx.out _).mono ?_; rintro _ w19 ⟨rfl, b⟩
    have HB := Lib.hid (below_on HB.out b)
    have S0 := Lib.hid (S0.out.on b)
    have X0 := Lib.hid (X0.out.below b X0.out.lt)
    have LW := Lib.hid (lt_on LW.out b)
    clear b
    rw [h100d.out]
    clear q0 q1 q2 q3
    obtain ⟨⟨q0, q1⟩, q2, q3⟩ := X0.out.facts2
    go_wp2_with fail
    refine (P0.out _ S0.out).mono ?_; rintro _ w20 ⟨rfl, b⟩
    have HB := Lib.hid (below_on HB.out b)
    have S0 := Lib.hid (S0.out.on b)
    have X0 := Lib.hid (X0.out.below b X0.out.lt)
    have LW := Lib.hid (lt_on LW.out b)
    clear b
    clear q0 q1 q2 q3
    obtain ⟨⟨q0, q1⟩, q2, q3⟩ := X0.out.facts2
    go_wp2_with fail
    go_ret
    exact ⟨rfl, HB.out⟩
  have hx1 := hq
  clear hq
  have hx0 := (tm_iff.1 (chk_ok.1 hr).1).1
  obtain ⟨op, hop⟩ : ∃ op, (trimF now L).length = op := ⟨_, rfl⟩
  have hopn : op ≤ n := by have := trim_le now L; rw [hop, HN.out] at this; exact this
  have hn64 : n ≤ 64 := by have := (chk_ok.1 hr).2.2; rw [HN.out] at this; exact this
  have HCk := Lib.hid (fun j h => b_chk (life := life) hr ⟨hn0, hn1⟩ ⟨hl0, hl1⟩ hx1 j h)
  have HTl := Lib.hid (fun j h hc => b_tell hr ⟨hn0, hn1⟩ ⟨hl0, hl1⟩ hx1 j h hc)
  have HFl := Lib.hid (fun j h hc => b_full (nx := nx) (L := L) ⟨hn0, hn1⟩ ⟨hl0, hl1⟩ j h hc)
  have HLe := Lib.hid (fun j h => b_le (now := now) (life := life) hr j h)
  have HLn := Lib.hid (fun j h => b_len (now := now) (life := life) hr j h)
  rw [hop] at HCk HTl HFl HLe HLn
  have HTm := Lib.hid (fun p hp => (okF_mem (chk_ok.1 hr).2.1 p hp).2.2)
  have P1 := Lib.hid (fun W hs => Trim_k nx A n c L HN.out hl now _ op rfl hop W hs)
  clear hr hop
  have hfield := fun x A n c w => field_open x A n c w
  go_enter Try.func9, Try.ntmps9
  go_wp2_with fail
  have HB := Lib.hid (Below.refl W.heap.size W)
  have S0 := Lib.hid (hs0.out)
  have na := nb0 W (.cells #[.int .i64 nx, .slice A n c] 24)
  have HB := Lib.hid (below_on HB.out na)
  have S0 := Lib.hid (S0.out.on na)
  have X0 := Lib.hid (show Blk (W.alloc (.cells #[.int .i64 nx, .slice A n c] 24)) W.heap.size 24 #[.int .i64 nx, .slice A n c] from Blk.new_at _ _ _ rfl)
  clear na
  have LW := Lib.hid X0.out.lt
  refine (live21 _).mono ?_; rintro _ w21 ⟨rfl, b⟩
  have HB := Lib.hid (below_on HB.out b)
  have S0 := Lib.hid (S0.out.on b)
  have X0 := Lib.hid (X0.out.below b X0.out.lt)
  have LW := Lib.hid (lt_on LW.out b)
  clear b
  obtain ⟨⟨q0, q1⟩, q2, q3⟩ := X0.out.facts2
  go_wp2_with fail
  refine (Few_n nx A n c hmx.out _).mono ?_; rintro _ w22 ⟨rfl, b⟩
  have HB := Lib.hid (below_on HB.out b)
  have S0 := Lib.hid (S0.out.on b)
  have X0 := Lib.hid (X0.out.below b X0.out.lt)
  have LW := Lib.hid (lt_on LW.out b)
  clear b
  rw [h100d.out]
  clear q0 q1 q2 q3
  obtain ⟨⟨q0, q1⟩, q2, q3⟩ := X0.out.facts2
  go_wp2_with fail
  refine (P0.out _ S0.out).mono ?_; rintro _ w23 ⟨rfl, b⟩
  have HB := Lib.hid (below_on HB.out b)
  have S0 := Lib.hid (S0.out.on b)
  have X0 := Lib.hid (X0.out.below b X0.out.lt)
  have LW := Lib.hid (lt_on LW.out b)
  clear b
  clear q0 q1 q2 q3
  obtain ⟨⟨q0, q1⟩, q2, q3⟩ := X0.out.facts2
  go_wp2_with fail
  refine (P1.out _ S0.out).mono ?_; rintro _ w24 ⟨B1, d1, rfl, hcc, hns, b⟩
  have HB := Lib.hid (below_on HB.out b)
  have S0 := Lib.hid (S0.out.on b)
  have X0 := Lib.hid (X0.out.below b X0.out.lt)
  have LW := Lib.hid (lt_on LW.out b)
  have T1c := Lib.hid hcc
  have T1 := Lib.hid (hns)
  clear b hcc hns
  clear q0 q1 q2 q3
  clear T1
  have HBw := Lib.hid HB.out
  have LWw := Lib.hid LW.out
  obtain ⟨⟨q0, q1⟩, q2, q3⟩ := X0.out.facts2
  have na := nb0 w24 (.cells #[.int .i64 nx, .slice A n c] 24)
  have HB := Lib.hid (below_on HB.out na)
  have S0 := Lib.hid (S0.out.on na)
  have X0 := Lib.hid (X0.out.below na X0.out.lt)
  have LW := Lib.hid (lt_on LW.out na)
  have Y1 := Lib.hid (show Blk (w24.alloc (.cells #[.int .i64 nx, .slice A n c] 24)) w24.heap.size 24 #[.int .i64 nx, .slice A n c] from Blk.new_at _ _ _ rfl)
  clear na
  go_wp2_with fail
  clear q0 q1 q2 q3
  generalize (w24.alloc (.cells #[.int .i64 nx, .slice A n c] 24)) = w25 at HB S0 X0 LW Y1 ⊢
  have HBf := Lib.hid HB.out
  have HGX := Lib.hid (show W.heap.size ≤ w24.heap.size from HBw.out.size)
  have HGN := Lib.hid (show W.heap.size ≠ w24.heap.size from Nat.ne_of_lt LWw.out)
  go_loopw [9, 10, 11, 12] (fun t9 _ _ _ wr => ∃ (j m d : Nat) (B : Option Addr), t9 = .int .i64 j ∧ j + op ≤ 64 ∧ (bF nx now life L j).length = m ∧ m ≤ d ∧ d ≤ maxLen ∧ NS wr wr.heap.size B (bF nx now life L j) ∧ Off w24.heap.size B (bF nx now life L j) ∧ Blk wr w24.heap.size 24 #[.int .i64 (nx + j), .slice B m d] ∧ Blk wr W.heap.size 24 #[.int .i64 nx, .slice A n c] ∧ Below W.heap.size W wr) (fun t9 _ _ _ _ => 70 - (intOf t9).toNat)
  case atStart => exact ⟨0, n, c, A, rfl, by omega, HN.out, hcap.out.1, hcap.out.2, S0.out, off_old hs0.out HGX.out, by simpa using Y1.out, X0.out, HB.out⟩
  case round =>
    obtain ⟨j, m, d, B, rfl, hj, hm, hmd, hdm, hns, hof, hy, hx, hbw⟩ := hrel
    have HY := Lib.hid hy
    have HX := Lib.hid hx
    have HS1 := Lib.hid hns
    have HW := Lib.hid hbw
    have HM := Lib.hid hm
    have hm64 : m ≤ 64 := by rw [← hm]; exact HLe.out j hj
    have hjl : j < 70 := by omega
    have hlow := hx.lt
    have hgy := hy.lt
    obtain ⟨⟨y0, y1⟩, y2, y3⟩ := hy.facts2
    clear hns hy hx hbw hm
    by_cases hlt : j + op < 64
    · have ht := HTl.out j hlt (HCk.out j hj)
      obtain ⟨m', hm'⟩ : ∃ m', (bF nx now life L (j + 1)).length = m' := ⟨_, rfl⟩
      have P2 := Lib.hid (fun W hs => Tell_f (nx + j) B m d _ HM.out (by omega) now life (nx + j + 1) _ m' (nx + j) 0 ht hm' W hs)
      have HM' := Lib.hid hm'
      clear ht hm'
      go_wp2_with fail
      refine (P2.out _ HS1.out).mono ?_; rintro _ w1 ⟨B', d', rfl, hcc, hns, hof2, b⟩
      have HO2 := Lib.hid (hof2 _ HY.out.lt)
      have HCc := Lib.hid hcc
      have HS2 := Lib.hid hns
      have HY2 := Lib.hid (HY.out.below b HY.out.lt)
      have HX2 := Lib.hid (HX.out.below b HX.out.lt)
      have HW2 := Lib.hid (below_on HW.out b)
      have hgy2 := HY2.out.lt
      clear y0 y1 y2 y3 b hns hcc hof2
      obtain ⟨⟨y0, y1⟩, y2, y3⟩ := HY2.out.facts2
      go_wp2_with fail
      go_roundw
      case rel =>
        have na := nb0 ((w1.setCell ⟨w24.heap.size, 0, none⟩ (.int .i64 (nx + j + 1))).setCell ⟨w24.heap.size, 1, none⟩ (.slice B' m' d')) (.cells #[.int .i64 (nx + j + 1), .slice B' m' d'] 24)
        refine ⟨j + 1, m', d', B', by go_num, by omega, HM'.out, HCc.out.1, HCc.out.2, ?_, HO2.out, ?_, ?_, ?_⟩
        · exact NS.on (w := ((w1.setCell ⟨w24.heap.size, 0, none⟩ (.int .i64 (nx + j + 1))).setCell ⟨w24.heap.size, 1, none⟩ (.slice B' m' d'))) (by have h := (HS2.out.set (o := 0) HO2.out (.int .i64 (nx + j + 1))).set (o := 1) HO2.out (.slice B' m' d'); simpa [World.setCell] using h) na
        · have h := (HY2.out.set2 (x' := .int .i64 (nx + j + 1)) (y' := .slice B' m' d')).alloc (.cells #[.int .i64 (nx + j + 1), .slice B' m' d'] 24)
          simpa [Int.add_assoc] using h
        · exact ((HX2.out.other (a := ⟨w24.heap.size, 0, none⟩) HGN.out _).other (a := ⟨w24.heap.size, 1, none⟩) HGN.out _).alloc _
        · exact below_on (below_setR (below_setR HW2.out HGX.out _) HGX.out _) na
      case measure => simp [intOf]; omega
    · have hj64 : j + op = 64 := by omega
      have ht := HFl.out j hj64 (HCk.out j hj)
      have hm6 : m = 64 := by rw [← HM.out]; exact HLn.out j hj64
      have HCj := Lib.hid (HCk.out j hj)
      have P2 := Lib.hid (fun W hs => Tell_k (nx + j) B m d _ HM.out (by omega) now life 0 [] 0 0 2 ht rfl W hs)
      have HM6 := Lib.hid hm6
      have HJ6 := Lib.hid hj64
      clear ht hj hm6 hj64
      go_wp2_with fail
      refine (P2.out _ HS1.out).mono ?_; rintro _ w1 ⟨B', d', rfl, _, _, b⟩
      have na := nb0 w1 (.cells #[.int .i64 0, .slice B' 0 d'] 24)
      have HS2 := Lib.hid ((HS1.out.on b).on na)
      have HY2 := Lib.hid ((HY.out.below b HY.out.lt).alloc (.cells #[.int .i64 0, .slice B' 0 d'] 24))
      have HX2 := Lib.hid ((HX.out.below b HX.out.lt).alloc (.cells #[.int .i64 0, .slice B' 0 d'] 24))
      have HW2 := Lib.hid (below_on (below_on HW.out b) na)
      have g5 : ((j : Int) != 64 - (op : Int)) = false := by have := HJ6.out; simp; omega
      have g6 : ((m : Int) != 64) = false := by have := HM6.out; simp; omega
      clear y0 y1 y2 y3 b na
      obtain ⟨⟨y0, y1⟩, y2, y3⟩ := HY2.out.facts2
      go_wp2_with fail
      generalize (w1.alloc (.cells #[.int .i64 0, .slice B' 0 d'] 24)) = w2 at HS2 HY2 HX2 HW2 ⊢
      clear y0 y1 y2 y3
      obtain ⟨⟨y0, y1⟩, y2, y3⟩ := HY2.out.facts2
      obtain ⟨⟨q0, q1⟩, q2, q3⟩ := HX2.out.facts2
      have HSf := Lib.hid (hs0.out.on HW2.out)
      go_loop [13, 14] (fun t13 t14 => ∃ (late : Int) (i : Nat), t13 = .int .i64 late ∧ t14 = .int .i64 i ∧ i ≤ n ∧ now + life + 1 ≤ late ∧ late ≤ 1099511627777 ∧ ∀ k (h : k < L.length), k < i → L[k].2 + 1 ≤ late) (fun _ t14 => n - (intOf t14).toNat)
      case atStart => exact ⟨now + life + 1, 0, rfl, rfl, by omega, by omega, by omega, fun k h g => by omega⟩
      case round =>
        obtain ⟨late, i, rfl, rfl, hi, hla, hlb, hall⟩ := hrel
        have HAl := Lib.hid hall
        clear hall
        by_cases hlt' : i < n
        · have hltL : i < L.length := by rw [HN.out]; exact hlt'
          obtain ⟨ad, rfl, had, c0, c1⟩ := HSf.out i hltL
          have hu := tm_iff.1 (HTm.out _ (List.getElem_mem hltL))
          have HEq : Hid (L[i].2 = L[i].2) := Lib.hid rfl
          generalize hgu : L[i].2 = u at c1 hu
          have HGu := Lib.hid hgu
          clear hgu
          go_wp2_with fail
          go_round
          case rel => exact ⟨max late (u + 1), i + 1, by first | rfl | go_num, by go_num, by omega, by omega, by omega, fun k h g => by
                        by_cases e : k = i
                        · subst e; rw [HGu.out]; omega
                        · have := HAl.out k h (by omega); omega⟩
          case measure => simp [intOf]; omega
        · obtain rfl : n = i := by omega
          have hlate : ∀ p ∈ L, p.2 + 1 ≤ late := fun p hp => by obtain ⟨k, hk, rfl⟩ := List.getElem_of_mem hp; exact HAl.out k hk (by rw [← HN.out]; exact hk)
          by_cases hlm : late < 1099511627776
          · have hmin : min late 1099511627775 = late := by omega
            have hb := b_again (L := L) hla hlate (by omega) hlm j (by have := HJ6.out; omega) HCj.out
            have P3 := Lib.hid (fun W hs => Tell_k (nx + j) B m d _ HM.out (by omega) late 1 _ _ 1 (nx + j) 0 hb rfl W hs)
            have hge : decide (1099511627776 ≤ late) = false := decide_eq_false (by omega)
            clear hb hlate HAl
            go_wp2_with fail
            refine (P3.out _ HS2.out).mono ?_; rintro _ w3 ⟨B3, d3, rfl, _, _, b⟩
            have HW3 := Lib.hid (below_on HW2.out b)
            clear b
            go_wp2_with fail
            go_ret
            exact ⟨by first | rfl | simp, below_on HW3.out (nb0 _ _)⟩
          · have hmin : min late 1099511627775 = 1099511627775 := by omega
            obtain ⟨nx', L', k', e', hb⟩ : ∃ nx' L' k' e', tellF (nx + j) (bF nx now life L j) 1099511627775 1 = (nx', L', k', e') := ⟨_, _, _, _, rfl⟩
            have P3 := Lib.hid (fun W hs => Tell_k (nx + j) B m d _ HM.out (by omega) 1099511627775 1 nx' L' _ k' e' hb rfl W hs)
            generalize L'.length = l' at P3
            have hge : decide (1099511627776 ≤ late) = true := decide_eq_true (by omega)
            clear hb hlate HAl
            go_wp2_with fail
            refine (P3.out _ HS2.out).mono ?_; rintro _ w3 ⟨B3, d3, rfl, _, _, b⟩
            have HW3 := Lib.hid (below_on HW2.out b)
            clear b
            go_wp2_with fail
            go_ret
            exact ⟨by first | rfl | simp, below_on HW3.out (nb0 _ _)⟩
end Go.Proofs.Ytdiafbeohldbjaa

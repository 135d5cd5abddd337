/- The walk of the law QuorumAny. -/
import Derived.Test.YtlannmedefjfhaaGreatQuorumX
namespace Go.Proofs.YtlannmedefjfhaaGreat
open Go.ChangeShapes Go.WideShapes Go.ChangeAt Go.RowKit Gs
set_option linter.unusedVariables false

theorem by_fix {c : Nat} {xs : List Int} (h : xs.length ≤ 200) (hl : xs.length ≤ c) (hm : c ≤ maxLen) (hx : ∀ n ∈ xs, (Lit.int .u8 n).wf = true) : ByFix c xs := ⟨by omega, hl, hm, fun n hn => u8_wf (hx n hn)⟩
theorem coms_sum (who n : Int) (ms : List Int) (l : List (Int × Int)) (k : Nat) : ((comsB who n ms l k).length : Int) = sumB who k := by unfold comsB; rw [List.length_map]; exact pickB_len _ _ _

set_option maxRecDepth 100000 in
set_option maxHeartbeats 4000000 in
theorem any_ok (T N : Nat) (t1 : 1 ≤ T) (tn : T ≤ N) (n7 : N ≤ 7) (A0 : Option Addr) (c0 : Nat) (xs0 : List Int) (who ss : Int) (A5 : Option Addr) (c5 : Nat) (xs5 : List Int) (h0 : ByFix c0 xs0) (h5 : ByFix c5 xs5) (l0 : xs0.length ≤ 200) (l5 : xs5.length ≤ 200) (s0 : 0 ≤ ss) (s1 : ss ≤ 1099511627776) (w : World) (hs0 : SI w w.heap.size .u8 A0 xs0) (hs5 : SI w w.heap.size .u8 A5 xs5) :
    Calls Tryz.prog 8 #[.slice A0 xs0.length c0, .int .i64 (T : Int), .int .i64 (N : Int), .int .i64 who, .int .i64 ss, .slice A5 xs5.length c5] w fun e w' => e = .returned (.bool true) ∧ Below w.heap.size w w' := by
  have B0 := Lib.hid (Below.refl w.heap.size w)
  have S0 := Lib.hid hs0
  have S5 := Lib.hid hs5
  have P1 := Lib.hid (fun W h => Deal_ok T N t1 tn n7 A0 c0 xs0 h0 W h)
  have HCR := Lib.hid (dealt_zero (xs := xs0) (ssecret_rb xs0) t1 tn n7)
  have HFX := Lib.hid (fun d (h1 : N ≤ d) (h2 : d ≤ maxLen) => fix_pubs (T := T) xs0 h1 h2 n7)
  have hkb := qpow_bound 4 (ssecret xs0)
  have HKU := Lib.hid (show IsU (qpow 4 (ssecret xs0)) from ⟨hkb.1, by omega⟩)
  unfold dshares at P1
  generalize cpoly (ssecret xs0) xs0 T = pol at *
  generalize qpow 4 (ssecret xs0) = key at *
  haveI := HKU.out
  have P4 := Lib.hid (fun D d (h1 : N ≤ d) (h2 : d ≤ maxLen) W h => Check_any6 (T : Int) (N : Int) key D d (spubs (csplit pol N)) (HFX.out d h1 h2).len (HFX.out d h1 h2).cap (HFX.out d h1 h2).max (HFX.out d h1 h2).u 0 (HCR.out ▸ crewF_is (T : Int) (N : Int) key _) W h)
  have HPN := Lib.hid (show (spubs (csplit pol N)).length = N by rw [spubs_length, csplit_length])
  rw [HPN.out] at P4
  have hsum := sumB_b who N
  have q1 : decide (200 < (xs0.length : Int)) = false := decide_eq_false (by omega)
  have q2 : decide (200 < (xs5.length : Int)) = false := decide_eq_false (by omega)
  have q3 : decide (ss < 0) = false := decide_eq_false (by omega)
  have q4 : decide (1099511627776 < ss) = false := decide_eq_false (by omega)
  have q5 : decide (7 < (N : Int)) = false := decide_eq_false (by omega)
  have BITS := Lib.hid (bitAt_two who)
  unfold crewV at P1 P4
  by_cases hf : sumB who N < (T : Int)
  · have he : ((comsB who ss xs5 (csplit pol N) N).length : Int) < (T : Int) := by rw [coms_sum]; exact hf
    have P3 := Lib.hid (fun D d (h1 : N ≤ d) (h2 : d ≤ maxLen) E d' W a1 a2 a3 => signed_few T N key who ss D d pol (HFX.out d h1 h2) A5 c5 xs5 h5 n7 s0 s1 HCR.out he E d' W a1 a2 a3)
    have HF := Lib.hid hf
    unfold crewV at P3
    clear hs0 hs5 h0 h5 hkb HKU he hf
    go_enter Tryz.func8, Tryz.ntmps8
    go_wp2_with fail
    refine (live6 _).mono ?_; rintro _ w1 ⟨rfl, b⟩; have B1 := Lib.hid (below_on B0.out b); clear b
    go_wp2_with fail
    refine (P1.out _ (S0.out.on B1.out)).mono ?_; rintro _ w2 ⟨⟨D, d, E, d', rfl, ⟨q1', q2', hsD⟩, ⟨q3', q4', hsE⟩⟩, b⟩
    have B2 := Lib.hid (below_on B1.out b)
    have QD := Lib.hid (And.intro q1' q2')
    have HD := Lib.hid hsD
    have HE := Lib.hid hsE
    clear b q1' q2' q3' q4' hsD hsE
    go_upto_region 7 with (fail)
    refine wp_named (fun W => Blk W w2.heap.size 26 #[.int .i64 (T : Int), .int .i64 (N : Int), .int .u64 key, .slice D N d] ∧ Below w2.heap.size w2 W) ⟨Blk.new_at w2 _ _ rfl, (Below.refl w2.heap.size w2).alloc (Nat.le_refl _) _⟩ ?_
    rintro W3 ⟨hk, hB⟩
    have KC := Lib.hid hk
    have B3 := Lib.hid (below_on B2.out hB)
    have HD3 := Lib.hid (HD.out.on hB)
    have HE3 := Lib.hid (HE.out.on hB)
    have k0 := hk.cell 0
    have k1 := hk.cell 1
    have k2 := hk.cell 2
    have k3 := hk.cell 3
    clear hk hB HD HE B2
    have qn : ((N : Int) != (N : Int)) = false := by simp
    go_wp2_with fail
    refine (P4.out D d QD.out.1 QD.out.2 _ HD3.out).mono ?_; rintro _ w4 ⟨rfl, b⟩
    have B4 := Lib.hid (below_on B3.out b)
    have HD4 := Lib.hid (HD3.out.on b)
    have HE4 := Lib.hid (HE3.out.on b)
    have KC4 := Lib.hid (KC.out.below b KC.out.lt)
    clear b k0 k1 k2 k3 KC HD3 HE3 B3
    go_wp2_with fail
    go_loopw [17, 18] (fun o i wr => ∃ k : Nat, k ≤ N ∧ i = .int .i64 k ∧ o = .int .i64 (sumB who k) ∧ Below w4.heap.size w4 wr) (fun _ i _ => N - (intOf i).toNat)
    case atStart => exact ⟨0, by omega, rfl, rfl, Below.refl _ _⟩
    case round =>
      obtain ⟨k, hk, rfl, rfl, hb⟩ := hrel
      have HBq := Lib.hid hb
      have hzq := hb.size
      clear hb
      by_cases hlt : k < N
      · have hb2 := BITS.out k
        have hsk := sumB_b who k
        have HS := Lib.hid (show sumB who (k + 1) = sumB who k + bits .and .i64 (who / 2 ^ k) 1 from rfl)
        have hb3 : bits .and .i64 (who / 2 ^ k) 1 = 0 ∨ bits .and .i64 (who / 2 ^ k) 1 = 1 := hb2
        generalize sumB who k = sk at *
        have HWR := Lib.hid (show RowKit.wrap64 (sk + bits .and .i64 (who / 2 ^ k) 1) = sumB who (k + 1) by rw [HS.out]; unfold RowKit.wrap64; omega)
        clear hb2 hb3
        go_wp2_with fail
        go_roundw
        case rel => exact ⟨k + 1, by omega, by go_num, by first | exact congrArg (Value.int .i64) HWR.out | rw [HS.out], HBq.out⟩
        case measure => simp [intOf]; omega
      · obtain rfl : N = k := by omega
        have kcq := KC4.out.below HBq.out KC4.out.lt
        have KCq := Lib.hid kcq
        have HDq := Lib.hid (HD4.out.on HBq.out)
        have HEq := Lib.hid (HE4.out.on HBq.out)
        have d0 := kcq.cell 0
        have d1 := kcq.cell 1
        have d2 := kcq.cell 2
        have d3 := kcq.cell 3
        clear kcq
        have qf : decide (sumB who N < (T : Int)) = true := decide_eq_true HF.out
        go_wp2_with fail
        refine (P3.out D d QD.out.1 QD.out.2 E d' _ HDq.out (S5.out.on (B4.out.trans (HBq.out.mono B4.out.size))) HEq.out).mono ?_; rintro _ w6 ⟨v1, v2, rfl, b⟩
        have BX := Lib.hid (below_on (B4.out.trans (HBq.out.mono B4.out.size)) b)
        have s0 := (Blk.new w6 45 #[.int .u64 0, .int .u64 0]).cell 0
        have s1 := (Blk.new w6 45 #[.int .u64 0, .int .u64 0]).cell 1
        clear b d0 d1 d2 d3
        go_wp2_with fail
        go_ret
        exact ⟨rfl, BX.out.alloc BX.out.size _⟩
  · have he : ¬ ((comsB who ss xs5 (csplit pol N) N).length : Int) < (T : Int) := by rw [coms_sum]; exact hf
    have P3 := Lib.hid (fun D d (h1 : N ≤ d) (h2 : d ≤ maxLen) E d' W a1 a2 a3 => signed_ok T N key who ss D d pol (HFX.out d h1 h2) A5 c5 xs5 h5 n7 s0 s1 HCR.out he E d' W a1 a2 a3)
    have HKC := Lib.hid (comb_chk (ms := xs5) (fun p hp => ((partsB_u key who ss xs5 (csplit pol N) (comsB who ss xs5 (csplit pol N) N) N) p hp).1) (picked_comb (who := who) (n := ss) (ms := xs5) (K := key) HCR.out he))
    have hch := chalF_bound key xs5 (comsB who ss xs5 (csplit pol N) N)
    have hsb := rsum_rb ((partsB key who ss xs5 (csplit pol N) (comsB who ss xs5 (csplit pol N) N) N).map Prod.snd)
    obtain ⟨CS, hCS⟩ : ∃ CS, comsB who ss xs5 (csplit pol N) N = CS := ⟨_, rfl⟩
    rw [hCS] at P3 HKC hch hsb
    obtain ⟨PS, hPS⟩ : ∃ PS, partsB key who ss xs5 (csplit pol N) CS N = PS := ⟨_, rfl⟩
    rw [hPS] at P3 HKC hsb
    have P5 := Lib.hid (Check_any key (chalF key xs5 CS) (rsum (PS.map Prod.snd)) A5 c5 xs5 h5.u h5.len h5.cap h5.max)
    rw [HKC.out] at P5
    have HF := Lib.hid hf
    unfold crewV at P3
    clear hs0 hs5 h0 h5 hkb HKU he hf hCS hPS HKC hch hsb
    generalize chalF key xs5 CS = ch at *
    generalize rsum (PS.map Prod.snd) = rs at *
    go_enter Tryz.func8, Tryz.ntmps8
    go_wp2_with fail
    refine (live6 _).mono ?_; rintro _ w1 ⟨rfl, b⟩; have B1 := Lib.hid (below_on B0.out b); clear b
    go_wp2_with fail
    refine (P1.out _ (S0.out.on B1.out)).mono ?_; rintro _ w2 ⟨⟨D, d, E, d', rfl, ⟨q1', q2', hsD⟩, ⟨q3', q4', hsE⟩⟩, b⟩
    have B2 := Lib.hid (below_on B1.out b)
    have QD := Lib.hid (And.intro q1' q2')
    have HD := Lib.hid hsD
    have HE := Lib.hid hsE
    clear b q1' q2' q3' q4' hsD hsE
    go_upto_region 7 with (fail)
    refine wp_named (fun W => Blk W w2.heap.size 26 #[.int .i64 (T : Int), .int .i64 (N : Int), .int .u64 key, .slice D N d] ∧ Below w2.heap.size w2 W) ⟨Blk.new_at w2 _ _ rfl, (Below.refl w2.heap.size w2).alloc (Nat.le_refl _) _⟩ ?_
    rintro W3 ⟨hk, hB⟩
    have KC := Lib.hid hk
    have B3 := Lib.hid (below_on B2.out hB)
    have HD3 := Lib.hid (HD.out.on hB)
    have HE3 := Lib.hid (HE.out.on hB)
    have k0 := hk.cell 0
    have k1 := hk.cell 1
    have k2 := hk.cell 2
    have k3 := hk.cell 3
    clear hk hB HD HE B2
    have qn : ((N : Int) != (N : Int)) = false := by simp
    go_wp2_with fail
    refine (P4.out D d QD.out.1 QD.out.2 _ HD3.out).mono ?_; rintro _ w4 ⟨rfl, b⟩
    have B4 := Lib.hid (below_on B3.out b)
    have HD4 := Lib.hid (HD3.out.on b)
    have HE4 := Lib.hid (HE3.out.on b)
    have KC4 := Lib.hid (KC.out.below b KC.out.lt)
    clear b k0 k1 k2 k3 KC HD3 HE3 B3
    go_wp2_with fail
    go_loopw [17, 18] (fun o i wr => ∃ k : Nat, k ≤ N ∧ i = .int .i64 k ∧ o = .int .i64 (sumB who k) ∧ Below w4.heap.size w4 wr) (fun _ i _ => N - (intOf i).toNat)
    case atStart => exact ⟨0, by omega, rfl, rfl, Below.refl _ _⟩
    case round =>
      obtain ⟨k, hk, rfl, rfl, hb⟩ := hrel
      have HBq := Lib.hid hb
      have hzq := hb.size
      clear hb
      by_cases hlt : k < N
      · have hb2 := BITS.out k
        have hsk := sumB_b who k
        have HS := Lib.hid (show sumB who (k + 1) = sumB who k + bits .and .i64 (who / 2 ^ k) 1 from rfl)
        have hb3 : bits .and .i64 (who / 2 ^ k) 1 = 0 ∨ bits .and .i64 (who / 2 ^ k) 1 = 1 := hb2
        generalize sumB who k = sk at *
        have HWR := Lib.hid (show RowKit.wrap64 (sk + bits .and .i64 (who / 2 ^ k) 1) = sumB who (k + 1) by rw [HS.out]; unfold RowKit.wrap64; omega)
        clear hb2 hb3
        go_wp2_with fail
        go_roundw
        case rel => exact ⟨k + 1, by omega, by go_num, by first | exact congrArg (Value.int .i64) HWR.out | rw [HS.out], HBq.out⟩
        case measure => simp [intOf]; omega
      · obtain rfl : N = k := by omega
        have kcq := KC4.out.below HBq.out KC4.out.lt
        have KCq := Lib.hid kcq
        have HDq := Lib.hid (HD4.out.on HBq.out)
        have HEq := Lib.hid (HE4.out.on HBq.out)
        have d0 := kcq.cell 0
        have d1 := kcq.cell 1
        have d2 := kcq.cell 2
        have d3 := kcq.cell 3
        clear kcq
        have qf : decide (sumB who N < (T : Int)) = false := decide_eq_false (by have := HF.out; omega)
        go_wp2_with fail
        refine (P3.out D d QD.out.1 QD.out.2 E d' _ HDq.out (S5.out.on (B4.out.trans (HBq.out.mono B4.out.size))) HEq.out).mono ?_; rintro _ w6 ⟨D1, cd, F, cf, rfl, _, _, b⟩
        have BX := Lib.hid (below_on (B4.out.trans (HBq.out.mono B4.out.size)) b)
        have e2 := (KCq.out.below b KCq.out.lt).alloc (.cells #[.int .u64 ch, .int .u64 rs] 45)
        have k2 := e2.cell 2
        have s0 := (Blk.new w6 45 #[.int .u64 ch, .int .u64 rs]).cell 0
        have s1 := (Blk.new w6 45 #[.int .u64 ch, .int .u64 rs]).cell 1
        have hz6 := (KCq.out.below b KCq.out.lt).lt
        clear b d0 d1 d2 d3 e2
        go_wp2_with fail
        refine (P5.out _ (S5.out.on (BX.out.alloc BX.out.size _))).mono ?_; rintro _ w7 ⟨rfl, b⟩
        have BY := Lib.hid (below_on (BX.out.alloc BX.out.size _) b)
        clear b
        go_wp2_with fail
        go_ret
        exact ⟨rfl, BY.out⟩

theorem any_bad (t n : Int) (A0 : Option Addr) (c0 : Nat) (xs0 : List Int) (who ss : Int) (A5 : Option Addr) (c5 : Nat) (xs5 : List Int) (h0 : ByFix c0 xs0) (l0 : xs0.length ≤ 200) (l5 : xs5.length ≤ 200) (s0 : 0 ≤ ss) (s1 : ss ≤ 1099511627776) (hb : ¬ SplitI (ssecret xs0) t n) (w : World) (hs0 : SI w w.heap.size .u8 A0 xs0) :
    Calls Tryz.prog 8 #[.slice A0 xs0.length c0, .int .i64 t, .int .i64 n, .int .i64 who, .int .i64 ss, .slice A5 xs5.length c5] w fun e w' => e = .returned (.bool true) ∧ Below w.heap.size w w' := by
  have B0 := Lib.hid (Below.refl w.heap.size w)
  have S0 := Lib.hid hs0
  have P1 := Lib.hid (fun W h => Deal_bad t n A0 c0 xs0 h0 hb W h)
  have q1 : decide (200 < (xs0.length : Int)) = false := decide_eq_false (by omega)
  have q2 : decide (200 < (xs5.length : Int)) = false := decide_eq_false (by omega)
  have q3 : decide (ss < 0) = false := decide_eq_false (by omega)
  have q4 : decide (1099511627776 < ss) = false := decide_eq_false (by omega)
  unfold crewV at P1
  clear hs0 h0 hb
  go_enter Tryz.func8, Tryz.ntmps8
  go_wp2_with fail
  refine (live6 _).mono ?_; rintro _ w1 ⟨rfl, b⟩; have B1 := Lib.hid (below_on B0.out b); clear b
  go_wp2_with fail
  refine (P1.out _ (S0.out.on B1.out)).mono ?_; rintro _ w2 ⟨rfl, b⟩
  have B2 := Lib.hid (below_on B1.out b)
  have k1 := (Blk.new w2 26 #[.int .i64 0, .int .i64 0, .int .u64 0, .slice none 0 0]).cell 1
  clear b
  go_wp2_with fail
  go_ret
  exact ⟨rfl, B2.out.alloc B2.out.size _⟩

theorem any_off (t n : Int) (A0 : Option Addr) (c0 : Nat) (l0 : Nat) (who ss : Int) (A5 : Option Addr) (c5 : Nat) (l5 : Nat) (h : ¬ (l0 ≤ 200 ∧ l5 ≤ 200 ∧ 0 ≤ ss ∧ ss ≤ 1099511627776)) (w : World) :
    Calls Tryz.prog 8 #[.slice A0 l0 c0, .int .i64 t, .int .i64 n, .int .i64 who, .int .i64 ss, .slice A5 l5 c5] w fun e w' => e = .returned (.bool true) ∧ Below w.heap.size w w' := by
  have h : 200 < l0 ∨ (l0 ≤ 200 ∧ 200 < l5) ∨ (l0 ≤ 200 ∧ l5 ≤ 200 ∧ ss < 0) ∨ (l0 ≤ 200 ∧ l5 ≤ 200 ∧ 0 ≤ ss ∧ 1099511627776 < ss) := by omega
  have B0 := Lib.hid (Below.refl w.heap.size w)
  rcases h with h1 | ⟨h1, h2⟩ | ⟨h1, h2, h3⟩ | ⟨h1, h2, h3, h4⟩
  · have q1 : decide (200 < (l0 : Int)) = true := decide_eq_true (by omega)
    go_enter Tryz.func8, Tryz.ntmps8
    go_wp2_with fail
    refine (live6 _).mono ?_; rintro _ w1 ⟨rfl, b⟩; have B1 := Lib.hid (below_on B0.out b); clear b
    go_wp2_with fail
    go_ret
    exact ⟨rfl, B1.out⟩
  · have q1 : decide (200 < (l0 : Int)) = false := decide_eq_false (by omega)
    have q2 : decide (200 < (l5 : Int)) = true := decide_eq_true (by omega)
    go_enter Tryz.func8, Tryz.ntmps8
    go_wp2_with fail
    refine (live6 _).mono ?_; rintro _ w1 ⟨rfl, b⟩; have B1 := Lib.hid (below_on B0.out b); clear b
    go_wp2_with fail
    go_ret
    exact ⟨rfl, B1.out⟩
  · have q1 : decide (200 < (l0 : Int)) = false := decide_eq_false (by omega)
    have q2 : decide (200 < (l5 : Int)) = false := decide_eq_false (by omega)
    have q3 : decide (ss < 0) = true := decide_eq_true h3
    go_enter Tryz.func8, Tryz.ntmps8
    go_wp2_with fail
    refine (live6 _).mono ?_; rintro _ w1 ⟨rfl, b⟩; have B1 := Lib.hid (below_on B0.out b); clear b
    go_wp2_with fail
    go_ret
    exact ⟨rfl, B1.out⟩
  · have q1 : decide (200 < (l0 : Int)) = false := decide_eq_false (by omega)
    have q2 : decide (200 < (l5 : Int)) = false := decide_eq_false (by omega)
    have q3 : decide (ss < 0) = false := decide_eq_false (by omega)
    have q4 : decide (1099511627776 < ss) = true := decide_eq_true h4
    go_enter Tryz.func8, Tryz.ntmps8
    go_wp2_with fail
    refine (live6 _).mono ?_; rintro _ w1 ⟨rfl, b⟩; have B1 := Lib.hid (below_on B0.out b); clear b
    go_wp2_with fail
    go_ret
    exact ⟨rfl, B1.out⟩

theorem any_walk6 (A0 : Option Addr) (c0 : Nat) (xs0 : List Int) (t n who ss : Int) (A5 : Option Addr) (c5 : Nat) (xs5 : List Int) (w : World) (hs0 : SI w w.heap.size .u8 A0 xs0) (hl0 : xs0.length ≤ c0) (hm0 : c0 ≤ maxLen) (hx0 : ∀ n ∈ xs0, (Lit.int .u8 n).wf = true) (hs5 : SI w w.heap.size .u8 A5 xs5) (hl5 : xs5.length ≤ c5) (hm5 : c5 ≤ maxLen) (hx5 : ∀ n ∈ xs5, (Lit.int .u8 n).wf = true) :
    Calls Tryz.prog 8 #[.slice A0 xs0.length c0, .int .i64 t, .int .i64 n, .int .i64 who, .int .i64 ss, .slice A5 xs5.length c5] w fun e w' => e = .returned (.bool true) ∧ Below w.heap.size w w' := by
  by_cases h : xs0.length ≤ 200 ∧ xs5.length ≤ 200 ∧ 0 ≤ ss ∧ ss ≤ 1099511627776
  · obtain ⟨h1, h2, h3, h4⟩ := h
    by_cases hs : SplitI (ssecret xs0) t n
    · obtain ⟨t1, tn, n7, _⟩ := hs
      obtain ⟨T, rfl⟩ := Int.eq_ofNat_of_zero_le (show 0 ≤ t by omega)
      obtain ⟨N, rfl⟩ := Int.eq_ofNat_of_zero_le (show 0 ≤ n by omega)
      exact any_ok T N (by omega) (by omega) (by omega) A0 c0 xs0 who ss A5 c5 xs5 (by_fix h1 hl0 hm0 hx0) (by_fix h2 hl5 hm5 hx5) h1 h2 h3 h4 w hs0 hs5
    · exact any_bad t n A0 c0 xs0 who ss A5 c5 xs5 (by_fix h1 hl0 hm0 hx0) h1 h2 h3 h4 hs w hs0
  · exact any_off t n A0 c0 xs0.length who ss A5 c5 xs5.length h w
end Go.Proofs.YtlannmedefjfhaaGreat

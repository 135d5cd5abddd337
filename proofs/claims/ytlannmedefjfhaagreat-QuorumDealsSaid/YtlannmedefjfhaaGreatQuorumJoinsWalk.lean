/- The walk of the law QuorumJoins. -/
import Derived.Test.YtlannmedefjfhaaGreatQuorumAnyWalk
namespace Go.Proofs.YtlannmedefjfhaaGreat
open Go.ChangeShapes Go.WideShapes Go.ChangeAt Go.RowKit Gs
set_option linter.unusedVariables false

set_option maxHeartbeats 2000000 in
theorem Shares6_yes (A A' : Option Addr) (c c' : Nat) (l : List (Int × Int)) (hl : l.length ≤ 1048576) (B : Nat) (w : World) (hs : SS w B A l) (hs' : SS w B A' l) :
    Calls Tryz.prog 17 #[.slice A l.length c, .slice A' l.length c'] w fun e w' => e = .returned (.bool true) ∧ Dr w w' := by
  have HS := Lib.hid hs
  have HS' := Lib.hid hs'
  clear hs hs'
  go_enter Tryz.func17, Tryz.ntmps17
  go_wp2_with fail
  go_loopw [5] (fun i wr => ∃ k : Nat, k ≤ l.length ∧ i = .int .i64 k ∧ Dr w wr) (fun i _ => l.length - (intOf i).toNat)
  case atStart => exact ⟨0, by omega, rfl, Dr.refl _⟩
  case round =>
    obtain ⟨k, hk, rfl, hd⟩ := hrel
    have HD := Lib.hid hd
    clear hd
    by_cases hlt : k < l.length
    · obtain ⟨ad, rfl, hb, c0, c1⟩ := (HD.out.ss HS.out) k hlt
      obtain ⟨ad', rfl, hb', c2, c3⟩ := (HD.out.ss HS'.out) k hlt
      go_wp2_with fail
      go_quiet (fail)
      go_wp2_with fail
      go_roundw
      case rel => exact ⟨k + 1, by omega, by go_num, HD.out.drewN _⟩
      case measure => simp [intOf]; omega
    · go_wp2_with fail
      go_ret
      exact ⟨rfl, HD.out⟩

set_option maxRecDepth 100000 in
set_option maxHeartbeats 4000000 in
theorem joins_ok (T N : Nat) (t1 : 1 ≤ T) (tn : T ≤ N) (n7 : N ≤ 7) (A0 : Option Addr) (c0 : Nat) (xs0 : List Int) (who : Int) (h0 : ByFix c0 xs0) (l0 : xs0.length ≤ 200) (w : World) (hs0 : SI w w.heap.size .u8 A0 xs0) :
    Calls Tryz.prog 11 #[.slice A0 xs0.length c0, .int .i64 (T : Int), .int .i64 (N : Int), .int .i64 who] w fun e w' => e = .returned (.bool true) ∧ Below w.heap.size w w' := by
  have B0 := Lib.hid (Below.refl w.heap.size w)
  have S0 := Lib.hid hs0
  have P1 := Lib.hid (fun W h => Deal_ok T N t1 tn n7 A0 c0 xs0 h0 W h)
  have PS := Lib.hid (fun W h => Secret_any A0 c0 xs0 h0.u h0.len h0.cap h0.max W h)
  have hrb := ssecret_rb xs0
  haveI : IsU (ssecret xs0) := rb_u hrb
  have PB := Lib.hid (Base_q (ssecret xs0))
  have HHD := Lib.hid (cpoly_head (s := ssecret xs0) xs0 t1 hrb)
  have HPL := Lib.hid (cpoly_length (ssecret xs0) xs0 T)
  unfold dshares at P1
  generalize cpoly (ssecret xs0) xs0 T = pol at *
  generalize qpow 4 (ssecret xs0) = key at *
  generalize ssecret xs0 = sec at *
  have HG := Lib.hid (pickB_good (who := who) (c := pol) (Nat.le_refl N))
  have HA := Lib.hid (csplit_good pol N)
  have HL := Lib.hid (csplit_length pol N)
  have HJI := Lib.hid (HA.out.join n7 (by rw [HL.out]; omega) (by rw [HL.out]; omega))
  have PP := Lib.hid (fun E d' (h1 : N ≤ d') (h2 : d' ≤ maxLen) W h => (Public_any E d' (csplit pol N) _ rfl (by rw [HL.out]; omega) (by rw [HL.out]; exact h1) h2 HA.out.u W h).mono fun r w' (h : PublicE W ((csplit pol N).map Prod.fst) (csplit pol N) r w' ∧ Below W.heap.size W w') => (⟨h.1.1 HJI.out, h.2⟩ : (∃ v, r = .returned (.tuple #[v, .int .i64 0]) ∧ OwnS w' W.heap.size v (spubs (csplit pol N))) ∧ Below W.heap.size W w'))
  rw [HL.out] at PP
  have HLE := Lib.hid (fun k => pickB_le who (csplit pol N) k)
  have HYES := Lib.hid (fun k (hk : k < N) h => pickB_yes (who := who) (l := csplit pol N) k (by rw [HL.out]; exact hk) h)
  have HNO := Lib.hid (fun k h => pickB_no (who := who) (l := csplit pol N) k h)
  have HPN := Lib.hid (show (spubs (csplit pol N)).length = N by rw [spubs_length, csplit_length])
  have PQ := Lib.hid (fun A A' c c' B W h h' => Shares6_yes A A' c c' (spubs (csplit pol N)) (by rw [HPN.out]; omega) B W h h')
  rw [HPN.out] at PQ
  have PJ := Lib.hid (fun F cf (h1 : (pickB who (csplit pol N) N).length ≤ cf) (h2 : cf ≤ maxLen) (hT : T ≤ (pickB who (csplit pol N) N).length) W h => (Join_any F cf (pickB who (csplit pol N) N) _ rfl (by have := pickB_le who (csplit pol N) N; omega) h1 h2 HG.out.u W h).mono fun r w' (h : JoinE ((pickB who (csplit pol N) N).map Prod.fst) (pickB who (csplit pol N) N) r ∧ Below W.heap.size W w') => (⟨by
    have h3 := pickB_le who (csplit pol N) N
    rw [h.1.2.1 (fun e => by rw [e] at hT; simp at hT; omega) (HG.out.join n7 (by omega) (by omega)), HG.out.jat n7 (by omega) (by omega) (by rw [HPL.out]; exact hT), HHD.out], h.2⟩ : r = .returned (.tuple #[.int .u64 sec, .int .i64 0]) ∧ Below W.heap.size W w'))
  have q1 : decide (200 < (xs0.length : Int)) = false := decide_eq_false (by omega)
  have BITS := Lib.hid (bitAt_two who)
  obtain ⟨j0, hj, hy0, hy1, hy2⟩ := info_parts Tryz.info37
  have HJ := Lib.hid (And.intro hj (And.intro hy0 (And.intro hy1 hy2)))
  unfold crewV at P1
  clear hs0 h0 hrb hj hy0 hy1 hy2
  generalize spubs (csplit pol N) = psb at *
  generalize csplit pol N = l at *
  go_enter Tryz.func11, Tryz.ntmps11
  go_wp2_with fail
  refine (live6 _).mono ?_; rintro _ w1 ⟨rfl, b⟩; have B1 := Lib.hid (below_on B0.out b); clear b
  go_wp2_with fail
  refine (P1.out _ (S0.out.on B1.out)).mono ?_; rintro _ w2 ⟨⟨D, d, E, d', rfl, ⟨q1', q2', hsD⟩, ⟨q3', q4', hsE⟩⟩, b⟩
  have B2 := Lib.hid (below_on B1.out b)
  have QD := Lib.hid (And.intro q1' q2')
  have QE := Lib.hid (And.intro q3' q4')
  have HD := Lib.hid hsD
  have HE := Lib.hid hsE
  clear b q1' q2' q3' q4' hsD hsE
  go_upto_region 7 with (fail)
  refine wp_named (fun W => Blk W w2.heap.size 26 #[.int .i64 (T : Int), .int .i64 (N : Int), .int .u64 key, .slice D N d] ∧ Below w2.heap.size w2 W) ⟨Blk.new_at w2 _ _ rfl, (Below.refl w2.heap.size w2).alloc (Nat.le_refl _) _⟩ ?_
  rintro W3 ⟨hk, hB⟩
  have KC := Lib.hid hk
  have B3 := Lib.hid (below_on B2.out hB)
  have HD3 := Lib.hid (HD.out.on hB)
  have HE3 := Lib.hid (HE.out.on hB)
  have k0 := hk.cell 0
  have k1 := hk.cell 1
  have k2 := hk.cell 2
  have k3 := hk.cell 3
  clear hk hB HD HE B2
  have qn : ((N : Int) != (N : Int)) = false := by simp
  go_wp2_with fail
  go_loopw [13, 14] (fun o i wr => ∃ k : Nat, k ≤ N ∧ i = .int .i64 k ∧ OwnS wr W3.heap.size o (pickB who l k) ∧ Below W3.heap.size W3 wr) (fun _ i _ => N - (intOf i).toNat)
  case atStart => exact ⟨0, by omega, rfl, ⟨rfl, .inl ⟨rfl, rfl⟩⟩, Below.refl _ _⟩
  case round =>
    obtain ⟨k, hk, rfl, ho, hb⟩ := hrel
    have HO := Lib.hid ho
    have HB := Lib.hid hb
    have hz := hb.size
    clear ho hb
    by_cases hlt : k < N
    · have hkl : k < l.length := by rw [HL.out]; exact hlt
      have hb2 := BITS.out k
      have HLen := Lib.hid (HLE.out k)
      by_cases hbt : bitAt who k = 1
      · have hq : (bits .and .i64 (who / 2 ^ k) 1 == 1) = true := by
          have h : bits .and .i64 (who / 2 ^ k) 1 = 1 := hbt
          rw [h]; rfl
        have HY := Lib.hid (HYES.out k hlt hbt)
        obtain ⟨ad, rfl, had, c0', c1'⟩ := (HE3.out.below HB.out) k hkl
        generalize l[k] = x at *
        obtain ⟨ck, hck⟩ : ∃ ck, pickB who l k = ck := ⟨_, rfl⟩
        rw [hck] at HY HLen HO
        have HLn := HLen.out
        clear hbt hb2 hck
        go_wp2_with (at_builtin; refine wpList_append_any _ rfl _ _ 24 rfl W3.heap.size 37 j0 (.agg #[.int .i64 0, .int .u64 0]) 2 16 Tryz.underlying24 HJ.out.1 HJ.out.2.1 HJ.out.2.2.1 HJ.out.2.2.2 rfl (by decide) _ _ _ rfl (own_below HO.out ((Below.refl wr.heap.size wr).alloc (Nat.le_refl _) _)) _ _ 1 _ (cells2 [x]) rfl (reads_new (Blk.new_at wr _ _ rfl) 1 rfl) (cells2_one _) (by unfold maxLen; omega) (by omega) (by simp; omega) ?_; intro v' w6 hown' hgrow _; have HO7 := Lib.hid hown'; have HG7 := Lib.hid hgrow; clear hown' hgrow)
        go_roundw
        case rel =>
          refine ⟨k + 1, by omega, by go_num, ?_, ?_⟩
          · have h := HO7.out
            rw [← cells2_append] at h
            rw [HY.out]
            exact own_s h (by simp) rfl
          · refine HB.out.trans (((Below.refl W3.heap.size wr).alloc hz _).grown HG7.out (by simp; omega) (fun g e => ?_))
            exact own_ge HO.out g e
        case measure => simp [intOf]; omega
      · have hq : (bits .and .i64 (who / 2 ^ k) 1 == 1) = false := by
          have h : bits .and .i64 (who / 2 ^ k) 1 = 0 := by rcases hb2 with h | h; exact h; exact absurd h hbt
          rw [h]; rfl
        have HY := Lib.hid (HNO.out k hbt)
        clear hbt hb2
        go_wp2_with fail
        go_roundw
        case rel => exact ⟨k + 1, by omega, by go_num, by rw [HY.out]; exact HO.out, HB.out⟩
        case measure => simp [intOf]; omega
    · obtain rfl : N = k := by omega
      obtain ⟨F, cf, rfl, q1', q2', hs2, _⟩ := own_sliceS HO.out
      have kcq := KC.out.below HB.out KC.out.lt
      have KCq := Lib.hid kcq
      have HDq := Lib.hid (HD3.out.on HB.out)
      have HEq := Lib.hid (HE3.out.on HB.out)
      have HF := Lib.hid hs2
      have QF := Lib.hid (And.intro q1' q2')
      have BQ := Lib.hid (B3.out.trans (HB.out.mono B3.out.size))
      clear kcq q1' q2' hs2
      obtain ⟨S, hS⟩ : ∃ S, pickB who l N = S := ⟨_, rfl⟩
      rw [hS] at PJ HF QF
      rw [hS]
      clear hS
      by_cases hT : T ≤ S.length
      · have qf : decide (S.length < T) = false := decide_eq_false (by omega)
        have PJ' := Lib.hid (PJ.out F cf QF.out.1 QF.out.2 hT)
        clear hT PJ
        go_wp2_with fail
        refine (PJ'.out _ HF.out).mono ?_; rintro _ w6 ⟨rfl, b⟩
        have B6 := Lib.hid (below_on BQ.out b)
        have HD6 := Lib.hid (HDq.out.on b)
        have HE6 := Lib.hid (HEq.out.on b)
        have KC6 := Lib.hid (KCq.out.below b KCq.out.lt)
        clear b PJ' KCq HDq HEq HF
        go_wp2_with fail
        refine (PP.out E d' QE.out.1 QE.out.2 _ HE6.out).mono ?_; rintro _ w7 ⟨⟨v7, rfl, ho⟩, b⟩
        obtain ⟨G, cg, rfl, _, _, hs7, _⟩ := own_sliceS ho
        rw [HPN.out]
        have HG7 := Lib.hid hs7
        have B7 := Lib.hid (below_on B6.out b)
        have HD7 := Lib.hid (HD6.out.on b)
        have kc7 := KC6.out.below b KC6.out.lt
        have KC7 := Lib.hid kc7
        have d3 := kc7.cell 3
        clear b ho hs7 KC6 HD6 HE6 kc7
        go_wp2_with fail
        refine (PQ.out G D cg d _ w7 HG7.out HD7.out).mono ?_; rintro _ w8 ⟨rfl, hdr⟩
        have hb78 := hdr.below w7.heap.size
        have B8 := Lib.hid (below_on B7.out hb78)
        have kc8 := KC7.out.below hb78 KC7.out.lt
        have hz8 := kc8.lt
        have k2 := kc8.cell 2
        clear hdr hb78 d3 KC7 kc8 HD7 HG7
        have qs : (sec == sec) = true := by simp
        have qk : (key == key) = true := by simp
        go_wp2_with fail
        have hW : Below w8.heap.size w8 w8.drew := (Below.refl w8.heap.size w8).drew
        go_region_held_law (fun w' => w'.cell? ⟨w2.heap.size, 2, none⟩ = some (.int .u64 key)) (first | assumption | go_keep)
          (first
            | (go_at_call 33; refine (PS.out _ (S0.out.on (below_on B8.out hW))).mono ?_; rintro _ w9 ⟨rfl, bb⟩; have hW := below_on hW bb; have x2 := (hW.cell (p := ⟨w2.heap.size, 2, none⟩) hz8).trans k2)
            | (go_at_call 34; refine (PB.out _).mono ?_; rintro _ w10 ⟨rfl, bb⟩; have hW := below_on hW bb; have x2 := (hW.cell (p := ⟨w2.heap.size, 2, none⟩) hz8).trans k2))
        all_goals
          have BX := Lib.hid (below_on B8.out hW)
          clear hW x2 k2
          go_wp2_with fail
          go_ret
          exact ⟨by first | rfl | simp, BX.out⟩
      · have qf : decide (S.length < T) = true := decide_eq_true (by omega)
        clear hT
        go_wp2_with fail
        go_ret
        exact ⟨rfl, BQ.out⟩

theorem joins_walk6 (A0 : Option Addr) (c0 : Nat) (xs0 : List Int) (t n who : Int) (w : World) (hs0 : SI w w.heap.size .u8 A0 xs0) (hl0 : xs0.length ≤ c0) (hm0 : c0 ≤ maxLen) (hx0 : ∀ n ∈ xs0, (Lit.int .u8 n).wf = true) :
    Calls Tryz.prog 11 #[.slice A0 xs0.length c0, .int .i64 t, .int .i64 n, .int .i64 who] w fun e w' => e = .returned (.bool true) ∧ Below w.heap.size w w' := by
  by_cases h : xs0.length ≤ 200
  · by_cases hs : SplitI (ssecret xs0) t n
    · obtain ⟨t1, tn, n7, _⟩ := hs
      obtain ⟨T, rfl⟩ := Int.eq_ofNat_of_zero_le (show 0 ≤ t by omega)
      obtain ⟨N, rfl⟩ := Int.eq_ofNat_of_zero_le (show 0 ≤ n by omega)
      exact joins_ok T N (by omega) (by omega) (by omega) A0 c0 xs0 who (by_fix h hl0 hm0 hx0) h w hs0
    · have B0 := Lib.hid (Below.refl w.heap.size w)
      have S0 := Lib.hid hs0
      have P1 := Lib.hid (fun W h' => Deal_bad t n A0 c0 xs0 (by_fix h hl0 hm0 hx0) hs W h')
      have q1 : decide (200 < (xs0.length : Int)) = false := decide_eq_false (by omega)
      unfold crewV at P1
      clear hs0 hx0 hs
      go_enter Tryz.func11, Tryz.ntmps11
      go_wp2_with fail
      refine (live6 _).mono ?_; rintro _ w1 ⟨rfl, b⟩; have B1 := Lib.hid (below_on B0.out b); clear b
      go_wp2_with fail
      refine (P1.out _ (S0.out.on B1.out)).mono ?_; rintro _ w2 ⟨rfl, b⟩
      have B2 := Lib.hid (below_on B1.out b)
      clear b
      go_wp2_with fail
      go_ret
      exact ⟨rfl, B2.out.alloc B2.out.size _⟩
  · have B0 := Lib.hid (Below.refl w.heap.size w)
    have q1 : decide (200 < (xs0.length : Int)) = true := decide_eq_true (by omega)
    clear hs0 hx0
    go_enter Tryz.func11, Tryz.ntmps11
    go_wp2_with fail
    refine (live6 _).mono ?_; rintro _ w1 ⟨rfl, b⟩; have B1 := Lib.hid (below_on B0.out b); clear b
    go_wp2_with fail
    go_ret
    exact ⟨rfl, B1.out⟩
end Go.Proofs.YtlannmedefjfhaaGreat

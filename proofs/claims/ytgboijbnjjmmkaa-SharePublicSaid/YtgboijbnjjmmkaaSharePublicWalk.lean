/- The walk of the law SharePublic. -/
import Derived.Test.YtgboijbnjjmmkaaSharePub
namespace Go.Proofs.Ytgboijbnjjmmkaa
open Go.ChangeShapes Go.WideShapes Go.ChangeAt Go.RowKit Gs
set_option linter.unusedVariables false

set_option maxHeartbeats 4000000 in
theorem public_walk5 (s t n : Int) [hs0 : IsU s] (A : Option Addr) (c : Nat) (xs : List Int) (f : Int) (f0 : 0 ≤ f) (f1 : f < 256) (w : World) (hs : SI w w.heap.size .u8 A xs) (hc : xs.length ≤ c) (hm : c ≤ maxLen) (hx : ∀ n ∈ xs, (Lit.int .u8 n).wf = true) :
    Calls Try.prog 9 #[.int .u64 s, .int .i64 t, .int .i64 n, .slice A xs.length c, .int .u8 f] w fun e w' => e = .returned (.bool true) ∧ Below w.heap.size w w' := by
  have HS := Lib.hid hs
  have B0 := Lib.hid (Below.refl w.heap.size w)
  have hx := fun n hn => u8_wf (hx n hn)
  have s0 := hs0.1
  clear hs
  by_cases h1 : xs.length ≤ 300
  · by_cases hsp : SplitI s t n
    · obtain ⟨t1, tn, n7, s1⟩ := hsp
      obtain ⟨T, rfl⟩ := Int.eq_ofNat_of_zero_le (show 0 ≤ t by omega)
      obtain ⟨N, rfl⟩ := Int.eq_ofNat_of_zero_le (show 0 ≤ n by omega)
      obtain ⟨F, rfl⟩ := Int.eq_ofNat_of_zero_le f0
      have hT1 : 1 ≤ T := by omega
      have hTN : T ≤ N := by omega
      have hN7 : N ≤ 7 := by omega
      have P1 := Lib.hid (Split_ok s T N s0 hT1 hTN hN7 s1 A c xs hx (by omega) hc hm)
      have HC := Lib.hid (cpoly_length s xs T)
      have HH := Lib.hid (cpoly_head (s := s) xs hT1 ⟨s0, s1⟩)
      have HG := Lib.hid (csplit_good (cpoly s xs T) N)
      have HGS := Lib.hid (some_good (cpoly s xs T) F T N false (by omega) hTN)
      have HSL := Lib.hid (someL_length (csplit (cpoly s xs T) N) F T false)
      obtain ⟨ids, hids⟩ : ∃ ids, (spubs (csplit (cpoly s xs T) N)).map Prod.fst = ids := ⟨_, rfl⟩
      have HPC := Lib.hid (pub_check HC.out hT1 hTN hN7 hids)
      have HN := Lib.hid (csplit_length (cpoly s xs T) N)
      have HPP := Lib.hid (show someL (spubs (csplit (cpoly s xs T) N)) F T false = spubs (someL (csplit (cpoly s xs T) N) F T false) from picks_pub _ F T (by rw [HN.out]; omega))
      have HF := Lib.hid (show wrap64 (F : Int) = (F : Int) by unfold wrap64; omega)
      have P6 := Lib.hid (Base_q s)
      have HI := Lib.hid hids
      generalize cpoly s xs T = cc at P1 HC HH HG HGS HSL HPC HN HPP HI
      generalize csplit cc N = l at P1 HG HGS HSL HPC HN HPP HI
      have HU := Lib.hid HG.out.u
      have HJI := Lib.hid (HG.out.join hN7 (by rw [HN.out]; omega) (by rw [HN.out]; omega))
      have HFF : F ≤ 255 := by omega
      clear hx hm hids f0 f1
      go_enter Try.func9, Try.ntmps9
      go_wp2_with fail
      refine (live5 _).mono ?_; rintro _ w1 ⟨rfl, b⟩; have B1 := Lib.hid (below_on B0.out b); clear b
      go_wp2_with fail
      refine (P1.out _ (HS.out.on B1.out)).mono ?_; rintro _ w2 ⟨v1, rfl, ho, b⟩
      obtain ⟨D1, d1, rfl, k1, k2, hs, _⟩ := own_sliceS ho
      have B2 := Lib.hid (below_on B1.out b)
      have S2 := Lib.hid hs
      have P2 := Lib.hid (fun w hs => (Public_any D1 d1 l _ rfl (by rw [HN.out]; omega) k1 k2 HU.out w hs).mono fun r w' (h : PublicE w _ l r w' ∧ Below w.heap.size w w') => (show ∃ v, r = .returned (.tuple #[v, .int .i64 0]) ∧ OwnS w' w.heap.size v (spubs l) ∧ Below w.heap.size w w' by obtain ⟨v, e, ho⟩ := h.1.1 HJI.out; exact ⟨v, e, ho, h.2⟩))
      rw [HN.out] at P2
      rw [HN.out]
      clear b ho hs k1 k2
      go_wp2_with fail
      refine (P2.out _ S2.out).mono ?_; rintro _ w3 ⟨v2, rfl, ho, b⟩
      obtain ⟨D2, d2, rfl, k1, k2, hs, _⟩ := own_sliceS ho
      have B3 := Lib.hid (below_on B2.out b)
      have S3 := Lib.hid hs
      have HNP := Lib.hid (show (spubs l).length = N by rw [spubs_length, HN.out])
      have HK1 := Lib.hid k1
      have HK2 := Lib.hid k2
      have P3 := Lib.hid (some_any (spubs l) F T false D2 d2 (by rw [HNP.out]; omega) (by rw [HNP.out]; omega) HFF (by omega))
      rw [HNP.out, HPP.out] at P3
      rw [HNP.out]
      clear b ho hs k1 k2 P2
      go_wp2_with fail
      try rw [HF.out]
      refine (P3.out _ S3.out).mono ?_; rintro _ w4 ⟨v3, rfl, ho, b⟩
      obtain ⟨S, hS⟩ : ∃ S, someL l F T false = S := ⟨_, rfl⟩
      rw [hS] at HGS HSL ho
      obtain ⟨D3, d3, rfl, k1, k2, hs, _⟩ := own_sliceS ho
      have B4 := Lib.hid (below_on B3.out b)
      have S4 := Lib.hid (S3.out.on b)
      have U4 := Lib.hid hs
      have HSP := Lib.hid (show (spubs S).length = T by rw [spubs_length, HSL.out])
      rw [HSP.out]
      rw [HSP.out] at k1
      have HRI := Lib.hid (HGS.out.right hN7 (by rw [HSL.out]; omega) (by rw [HSL.out]; omega))
      have K2 := Lib.hid k2
      have hRI := HGS.out.right hN7 (by rw [HSL.out]; omega) (by rw [HSL.out]; omega)
      have HJAT := Lib.hid (show qat (S.map Prod.fst) 0 (spubs S) = qpow 4 s by
        show qat _ _ (S.map fun p => (p.1, qpow 4 p.2)) = _
        rw [qat_base _ _ _ (fun p hp => (HGS.out.u p hp).1), HGS.out.jat hN7 (by rw [HSL.out]; omega) (by rw [HSL.out]; omega) (by rw [HSL.out, HC.out]; omega), HH.out])
      have P7 := Lib.hid (Ids_n D3 T d3 (spubs S) HSP.out (by omega))
      have HQ := Lib.hid (spubs_u S)
      obtain ⟨J, hJ⟩ : ∃ J, S.map Prod.fst = J := ⟨_, rfl⟩
      have HMem := Lib.hid (show ∀ k (h : k < (spubs S).length), (spubs S)[k].1 ∈ J by rw [← hJ, ← spubs_fst]; exact fun k h => List.mem_map_of_mem (List.getElem_mem h))
      have HJL := Lib.hid (show J.length = T by rw [← hJ, List.length_map, HSL.out])
      rw [spubs_fst, hJ] at P7
      rw [hJ] at hRI HJAT
      have HRJ := Lib.hid hRI
      have P8 := Lib.hid (fun A c (h1 : J.length ≤ c) (h2 : c ≤ maxLen) (i : Int) (hi : i ∈ J) w hs => (Weight_any A c J (by rw [HJL.out]; omega) h1 h2 i w hs).mono fun r w' (h : WeightE J i r ∧ Below w.heap.size w w') => (⟨h.1.1 ⟨HRJ.out, hi⟩, h.2⟩ : r = .returned (.tuple #[.int .u64 (wat J i 0), .int .i64 0]) ∧ Below w.heap.size w w'))
      clear b ho hs k2 P3 hS HPP hJ hRI HRI
      go_wp2_with fail
      go_loopw [16, 17] (fun o j wr => ∃ k : Nat, k ≤ T ∧ j = .int .i64 k ∧ o = .int .u64 (qat J 0 ((spubs S).take k)) ∧ Below w4.heap.size w4 wr) (fun _ j _ => T - (intOf j).toNat)
      case atStart => exact ⟨0, by omega, rfl, rfl, Below.refl _ _⟩
      case round =>
        obtain ⟨k, hk, rfl, rfl, hd⟩ := hrel
        have HD := Lib.hid hd
        clear hd
        by_cases hlt : k < T
        · obtain ⟨ad, rfl, had, c0, c1⟩ := (U4.out.on HD.out) k (by rw [HSP.out]; exact hlt)
          have hkS : k < (spubs S).length := by rw [HSP.out]; exact hlt
          have HT := Lib.hid (show qat J 0 ((spubs S).take (k + 1)) = qmul (qat J 0 ((spubs S).take k)) (qpow (spubs S)[k].2 (wat J (spubs S)[k].1 0)) by rw [qat_take J 0 (spubs S) k hkS]; rfl)
          have hq := HQ.out _ (List.getElem_mem hkS)
          haveI : IsU (spubs S)[k].2 := ⟨hq.1, hq.2⟩
          have P9 := Lib.hid (Pow_q (spubs S)[k].2 (wat J (spubs S)[k].1 0))
          have P10 := Lib.hid (Mul_q (qat J 0 ((spubs S).take k)) (qpow (spubs S)[k].2 (wat J (spubs S)[k].1 0)))
          have HMk := Lib.hid (HMem.out k hkS)
          have HUr := Lib.hid (U4.out.on HD.out)
          have hz := HD.out.size
          have hbk : (ad.add (k * 2)).block < wr.heap.size := by rw [block_of_add]; exact had
          clear hq
          generalize (spubs S)[k].1 = pi at P9 P10 HT HMk c0 ⊢
          generalize (spubs S)[k].2 = px at P9 P10 HT c1 ⊢
          go_wp2_with fail
          have hd : wr.heap.size ≤ wr.drew.heap.size := Nat.le_refl _
          go_region_held_law (fun w' => w'.cell? (ad.add (k * 2)) = some (.int .i64 pi)) (first | assumption | go_keep)
            (first
              | (go_at_call 25; refine (P7.out _ (HUr.out.on ((Below.refl _ _).drew))).mono ?_; rintro _ w5 ⟨v5, rfl, ho5, b5⟩; obtain ⟨A5, c5, rfl, q1, q2, hs5, _⟩ := own_sliceI ho5; have hW := (Below.refl wr.heap.size wr).drew.trans (b5.mono (by omega)); have k0 := (hW.cell (p := ad.add (k * 2)) hbk).trans c0)
              | (go_at_call 20; refine (P8.out A5 c5 q1 q2 pi HMk.out _ hs5).mono ?_; rintro _ w6 ⟨rfl, b6⟩; have hW := hW.trans (b6.mono hW.size); have k0 := (hW.cell (p := ad.add (k * 2)) hbk).trans c0))
          have c1' := (hW.cell (p := ⟨(ad.add (k * 2)).block, (ad.add (k * 2)).off + 1, none⟩) hbk).trans c1
          have B6 := Lib.hid (below_on HD.out hW)
          clear hW k0 c0 c1 hd
          go_wp2_with fail
          refine (P9.out _).mono ?_; rintro _ w7 ⟨rfl, b⟩; have B7 := Lib.hid (below_on B6.out b); clear b
          go_wp2_with fail
          refine (P10.out _).mono ?_; rintro _ w8 ⟨rfl, b⟩; have B8 := Lib.hid (below_on B7.out b); clear b
          go_wp2_with fail
          go_roundw
          case rel => exact ⟨k + 1, by omega, by go_num, by rw [HT.out], B8.out⟩
          case measure => simp [intOf]; omega
        · obtain rfl : k = T := by omega
          have hq : qat J 0 ((spubs S).take k) = qpow 4 s := by rw [List.take_of_length_le (by rw [HSP.out]; omega)]; exact HJAT.out
          rw [hq]
          have P11 := Lib.hid (fun w hs => (Check_any5 (k : Int) D2 d2 (spubs l) ids HI.out (by rw [HNP.out]; omega) HK1.out HK2.out (spubs_u l) w hs).mono fun r w' (h : CheckE (k : Int) ids (spubs l) r ∧ Below w.heap.size w w') => (⟨h.1.ok HPC.out.1 HPC.out.2.1 (by have := HPC.out.2.2.1; omega) (by have := HPC.out.2.2.2; first | exact this | simpa using this), h.2⟩ : r = .returned (.int .i64 0) ∧ Below w.heap.size w w'))
          rw [HNP.out] at P11
          have B5 := Lib.hid (below_on B4.out HD.out)
          have S5 := Lib.hid (S4.out.on HD.out)
          clear hq
          go_wp2_with fail
          refine (P11.out _ S5.out).mono ?_; rintro _ w7 ⟨rfl, b⟩; have B7 := Lib.hid (below_on B5.out b); clear b
          go_wp2_with fail
          refine (P6.out _).mono ?_; rintro _ w8 ⟨rfl, b⟩; have B8 := Lib.hid (below_on B7.out b); clear b
          go_wp2_with fail
          go_ret
          exact ⟨rfl, B8.out⟩
    · have P1 := Lib.hid (Split_bad s t n s0 hsp (.slice A xs.length c))
      clear hm hx hsp
      go_enter Try.func9, Try.ntmps9
      go_wp2_with fail
      refine (live5 _).mono ?_; rintro _ w1 ⟨rfl, b⟩; have B1 := Lib.hid (below_on B0.out b); clear b
      go_wp2_with fail
      refine (P1.out _).mono ?_; rintro _ w2 ⟨rfl, b⟩; have B2 := Lib.hid (below_on B1.out b); clear b
      go_wp2_with fail
      go_ret
      exact ⟨rfl, B2.out⟩
  · clear hm hx
    go_enter Try.func9, Try.ntmps9
    go_wp2_with fail
    refine (live5 _).mono ?_; rintro _ w1 ⟨rfl, b⟩; have B1 := Lib.hid (below_on B0.out b); clear b
    go_wp2_with fail
    go_ret
    exact ⟨rfl, B1.out⟩
end Go.Proofs.Ytgboijbnjjmmkaa

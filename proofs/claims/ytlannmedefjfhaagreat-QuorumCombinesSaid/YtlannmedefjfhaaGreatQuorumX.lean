/- The chapter's example of quorums holds; what is few. -/
import Derived.Test.YtlannmedefjfhaaGreatQuorumLib2
import Derived.Test.YtlannmedefjfhaaGreatSignLive
namespace Go.Proofs.YtlannmedefjfhaaGreat
open Go.ChangeShapes Go.WideShapes Go.ChangeAt Go.RowKit Gs
set_option linter.unusedVariables false

theorem few6 (T N K : Int) (A : Option Addr) (n c : Nat) (D : Option Addr) (d cd : Nat) (M : Option Addr) (m cm : Nat) (w : World) (b : Bool) (hb : decide (n ≤ 20 ∧ d ≤ 20 ∧ m ≤ 200) = b) :
    Calls Tryz.prog 13 #[crewV T N K A n c, .slice D d cd, .slice M m cm] w fun e w' => e = .returned (.bool b) ∧ Below w.heap.size w w' := by
  have D0 := Lib.hid ((Below.refl w.heap.size w).alloc (Nat.le_refl _) (.cells #[.int .i64 T, .int .i64 N, .int .u64 K, .slice A n c] 26))
  unfold crewV
  by_cases h1 : n ≤ 20
  · have q1 : decide ((n : Int) ≤ 20) = true := decide_eq_true (by omega)
    by_cases h2 : d ≤ 20
    · have q2 : decide ((d : Int) ≤ 20) = true := decide_eq_true (by omega)
      by_cases h3 : m ≤ 200
      · have q3 : decide ((m : Int) ≤ 200) = true := decide_eq_true (by omega)
        rw [← hb, decide_eq_true ⟨h1, h2, h3⟩]
        clear hb
        go_enter Tryz.func13, Tryz.ntmps13
        go_wp2_with fail
        go_ret
        exact ⟨rfl, D0.out⟩
      · have q3 : decide ((m : Int) ≤ 200) = false := decide_eq_false (by omega)
        rw [← hb, decide_eq_false (fun h => h3 h.2.2)]
        clear hb
        go_enter Tryz.func13, Tryz.ntmps13
        go_wp2_with fail
        go_ret
        exact ⟨rfl, D0.out⟩
    · have q2 : decide ((d : Int) ≤ 20) = false := decide_eq_false (by omega)
      rw [← hb, decide_eq_false (fun h => h2 h.2.1)]
      clear hb
      go_enter Tryz.func13, Tryz.ntmps13
      go_wp2_with fail
      go_ret
      exact ⟨rfl, D0.out⟩
  · have q1 : decide ((n : Int) ≤ 20) = false := decide_eq_false (by omega)
    rw [← hb, decide_eq_false (fun h => h1 h.1)]
    clear hb
    go_enter Tryz.func13, Tryz.ntmps13
    go_wp2_with fail
    go_ret
    exact ⟨rfl, D0.out⟩

theorem by1 (x : Int) (h0 : 0 ≤ x) (h1 : x < 256) (c : Nat) (hc : 1 ≤ c) (hm : c ≤ maxLen) : ByFix c [x] := ⟨by simp, hc, hm, fun y hy => by rw [List.mem_singleton] at hy; subst hy; exact ⟨h0, h1⟩⟩
theorem fix_pubs {c T N : Nat} (xs : List Int) (h1 : N ≤ c) (h2 : c ≤ maxLen) (h7 : N ≤ 7) : ShFix c (spubs (csplit (cpoly (ssecret xs) xs T) N)) := ⟨by rw [spubs_length, csplit_length]; omega, by rw [spubs_length, csplit_length]; exact h1, h2, spubs_u _⟩

set_option maxRecDepth 100000 in
set_option maxHeartbeats 4000000 in
theorem live6 (w : World) : Calls Tryz.prog 12 #[] w fun e w' => e = .returned (.bool true) ∧ Below w.heap.size w w' := by
  have kc := fun (w : World) (C : Array Value) (n c : Nat) => Lib.run_convert_bytes_const (P := Tryz.prog) w 22 5 C n c Tryz.underlying22 Tryz.underlying5
  have P1 : ∀ g W, SI W W.heap.size .u8 (some ⟨g, 0, none⟩) [115] → Calls Tryz.prog 14 #[.slice (some ⟨g, 0, none⟩) 1 1, .int .i64 2, .int .i64 3] W fun e w' => (∃ D d E d', e = .returned (.tuple #[crewV 2 3 (qpow 4 (ssecret [115])) D 3 d, .slice E 3 d', .int .i64 0]) ∧ (3 ≤ d ∧ d ≤ maxLen ∧ SS w' w'.heap.size D (spubs (csplit (cpoly (ssecret [115]) [115] 2) 3))) ∧ (3 ≤ d' ∧ d' ≤ maxLen ∧ SS w' w'.heap.size E (csplit (cpoly (ssecret [115]) [115] 2) 3))) ∧ Below W.heap.size W w' := fun g W h => Deal_ok 2 3 (by omega) (by omega) (by omega) (some ⟨g, 0, none⟩) 1 [115] (by1 115 (by omega) (by omega) 1 (by omega) (by unfold maxLen; omega)) W h
  have HCR := Lib.hid (show crewF 2 3 (qpow 4 (ssecret [115])) (spubs (csplit (cpoly (ssecret [115]) [115] 2) 3)) = 0 from dealt_zero (T := 2) (N := 3) (xs := [115]) (ssecret_rb [115]) (by omega) (by omega) (by omega))
  have HFX := Lib.hid (fun d (h1 : 3 ≤ d) (h2 : d ≤ maxLen) => (fix_pubs (T := 2) (N := 3) [115] h1 h2 (by omega) : ShFix d (spubs (csplit (cpoly (ssecret [115]) [115] 2) 3))))
  have hkb := qpow_bound 4 (ssecret [115])
  have HKU := Lib.hid (show IsU (qpow 4 (ssecret [115])) from ⟨hkb.1, by omega⟩)
  generalize cpoly (ssecret [115]) [115] 2 = pol at *
  generalize qpow 4 (ssecret [115]) = key at *
  haveI := HKU.out
  clear hkb HKU
  have hm : ByFix 1 [109] := by1 109 (by omega) (by omega) 1 (by omega) (by unfold maxLen; omega)
  have HM := Lib.hid hm
  -- who is chosen
  have hl3 := csplit_length pol 3
  obtain ⟨la, lb, lc, hl⟩ : ∃ a b c, csplit pol 3 = [a, b, c] := ⟨_, _, _, rfl⟩
  have hp5 := pick_five hl
  have hc5 : comsB 5 4 [109] (csplit pol 3) 3 = [qcom la 4 [109], qcom lc 4 [109]] := by unfold comsB; rw [hp5]; rfl
  have hlen5 : ¬ ((comsB 5 4 [109] (csplit pol 3) 3).length : Int) < 2 := by rw [hc5]; simp
  have hlen1 : ((comsB 1 4 [109] (csplit pol 3) 3).length : Int) < 2 := by
    unfold comsB; rw [List.length_map, pickB_len, sum_one]; omega
  have hq5 : partsB key 5 4 [109] (csplit pol 3) (comsB 5 4 [109] (csplit pol 3) 3) 3 = [qpart key 4 [109] (comsB 5 4 [109] (csplit pol 3) 3) la, qpart key 4 [109] (comsB 5 4 [109] (csplit pol 3) 3) lc] := by unfold partsB; rw [hp5]; rfl
  have hlc : lc.1 = 3 := by
    have h1 := csplit_get pol 3 2 (by rw [hl3]; omega)
    simp only [hl] at h1
    have h2 : lc = (((2 : Nat) : Int) + 1, pval (((2 : Nat) : Int) + 1) pol) := h1
    rw [h2]; rfl
  have P2 := Lib.hid (fun D d (h1 : 3 ≤ d) (h2 : d ≤ maxLen) E d' g W a1 a2 a3 => (signed_ok 2 3 key 5 4 D d pol (HFX.out d h1 h2) (some ⟨g, 0, none⟩) 1 [109] hm (by omega) (by omega) (by omega) HCR.out hlen5 E d' W a1 a2 a3))
  have P3 := Lib.hid (fun D d (h1 : 3 ≤ d) (h2 : d ≤ maxLen) E d' g W a1 a2 a3 => (signed_few 2 3 key 1 4 D d pol (HFX.out d h1 h2) (some ⟨g, 0, none⟩) 1 [109] hm (by omega) (by omega) (by omega) HCR.out hlen1 E d' W a1 a2 a3))
  have HC := Lib.hid (picked_comb (who := 5) (n := 4) (ms := [109]) (K := key) HCR.out hlen5)
  have HKC := Lib.hid (comb_chk (ms := [109]) (fun p hp => ((partsB_u key 5 4 [109] (csplit pol 3) (comsB 5 4 [109] (csplit pol 3) 3) 3) p hp).1) HC.out)
  have hcu := comsB_u 5 4 [109] (csplit pol 3) 3
  have hpu := partsB_u key 5 4 [109] (csplit pol 3) (comsB 5 4 [109] (csplit pol 3) 3) 3
  have hprb := qpart_rb key 4 [109] (comsB 5 4 [109] (csplit pol 3) 3) lc
  have hch := chalF_bound key [109] (comsB 5 4 [109] (csplit pol 3) 3)
  have hsb := rsum_rb ((partsB key 5 4 [109] (csplit pol 3) (comsB 5 4 [109] (csplit pol 3) 3) 3).map Prod.snd)
  have hpa : (qpart key 4 [109] (comsB 5 4 [109] (csplit pol 3) 3) lc).1 = 3 := hlc
  have hca : (qcom lc 4 [109]).1 = 3 := hlc
  obtain ⟨CS, hCS⟩ : ∃ CS, comsB 5 4 [109] (csplit pol 3) 3 = CS := ⟨_, rfl⟩
  obtain ⟨PS, hPS⟩ : ∃ PS, partsB key 5 4 [109] (csplit pol 3) CS 3 = PS := ⟨_, rfl⟩
  rw [hCS] at hc5 hq5 hcu hpu hprb hch hsb hpa HC HKC P2 hlen5
  rw [hPS] at hq5 hpu hsb HC HKC P2
  have HW := Lib.hid (fun hk => wrong_comb2 (who := 5) (n := 4) (ms := [109]) (K := key) HCR.out 1 (by decide) CS PS hCS hPS hlen5 1 hk)
  have HCL := Lib.hid (show CS.length = 2 by rw [hc5]; rfl)
  have HPL := Lib.hid (show PS.length = 2 by rw [hq5]; rfl)
  clear hCS hPS hlen5 hlen1 hp5 hl3 hl hlc
  obtain ⟨p0, hp0⟩ : ∃ p0, qpart key 4 [109] CS la = p0 := ⟨_, rfl⟩
  obtain ⟨p1, hp1⟩ : ∃ p1, qpart key 4 [109] CS lc = p1 := ⟨_, rfl⟩
  rw [hp0, hp1] at hq5
  rw [hp1] at hprb hpa
  obtain ⟨c0, hc0⟩ : ∃ c0, qcom la 4 [109] = c0 := ⟨_, rfl⟩
  obtain ⟨c1, hc1⟩ : ∃ c1, qcom lc 4 [109] = c1 := ⟨_, rfl⟩
  rw [hc0, hc1] at hc5
  rw [hc1] at hca
  clear hp0 hp1 hc0 hc1
  have HQ5 := Lib.hid hq5
  have HC5 := Lib.hid hc5
  have HPA := Lib.hid hpa
  have HCA := Lib.hid hca
  have HPU := Lib.hid hpu
  have HCU := Lib.hid hcu
  haveI : IsU p1.2 := rb_u hprb
  haveI : IsU (chalF key [109] CS) := ⟨hch.1, by omega⟩
  have P4 := Lib.hid (AddR_r p1.2 1)
  have P5 := Lib.hid (fun D d (h1 : 3 ≤ d) (h2 : d ≤ maxLen) g D1 cd (hc : ShFix cd CS) F cf (hf : ShFix cf [p0, (p1.1, radd p1.2 1)]) W a1 a2 a3 a4 => (Combine_any 2 3 key D d (spubs (csplit pol 3)) (HFX.out d h1 h2) (some ⟨g, 0, none⟩) 1 [109] HM.out D1 cd CS hc F cf [p0, (p1.1, radd p1.2 1)] hf W a1 a2 a3 a4))
  have HW2 : combF 2 ((3 : Nat) : Int) key (spubs (csplit pol 3)) [109] CS [p0, (p1.1, radd p1.2 1)] = 60 ∧ combS 2 ((3 : Nat) : Int) key (spubs (csplit pol 3)) [109] CS [p0, (p1.1, radd p1.2 1)] = (0, 0) := by
    have h := HW.out (by rw [hq5]; simp)
    simp only [hq5, List.getElem_cons_succ, List.getElem_cons_zero, List.set_cons_succ, List.set_cons_zero] at h
    exact h
  rw [show ((3 : Nat) : Int) = 3 from rfl] at HW2
  rw [HW2.1, HW2.2] at P5
  have P6 := Lib.hid (fun g => Check_any key (chalF key [109] CS) (rsum (PS.map Prod.snd)) (some ⟨g, 0, none⟩) 1 [109] hm.u hm.len hm.cap hm.max)
  rw [HKC.out] at P6
  have P7 := Lib.hid (fun D d (h1 : 3 ≤ d) (h2 : d ≤ maxLen) W h => Check_any6 2 3 key D d (spubs (csplit pol 3)) (HFX.out d h1 h2).len (HFX.out d h1 h2).cap (HFX.out d h1 h2).max (HFX.out d h1 h2).u 0 (HCR.out ▸ crewF_is 2 3 key _) W h)
  have P8 := Lib.hid (fun W h => Check_any6 0 0 0 none 0 [] (by simp) (by simp) (by unfold maxLen; omega) (by simp) 1 ⟨fun _ => rfl, fun h => by have := h.1; omega, fun h => by have := h.1; omega⟩ W h)
  have HPN := Lib.hid (show (spubs (csplit pol 3)).length = 3 by rw [spubs_length, csplit_length])
  rw [HPN.out] at P5 P7
  rw [HCL.out] at P2 P5
  rw [HPL.out] at P2
  generalize hpsb : spubs (csplit pol 3) = psb at *
  generalize csplit pol 3 = l at *
  clear HW HC HKC HW2 hcu hpu hprb hch hsb hpa hca hq5 hc5 hpsb
  generalize chalF key [109] CS = ch at *
  generalize rsum (PS.map Prod.snd) = rs at *
  unfold crewV at P1 P2 P3 P5 P7 P8
  go_enter Tryz.func12, Tryz.ntmps12
  go_upto_region 2 with (fail)
  refine wp_named (fun W => SI W W.heap.size .u8 (some ⟨w.heap.size, 0, none⟩) [109] ∧ Below w.heap.size w W ∧ w.heap.size < W.heap.size) ⟨si_lit w 5 (1, 2) [109], (Below.refl w.heap.size w).alloc (Nat.le_refl _) _, by simp⟩ ?_
  rintro W1 ⟨hsm, hB1, hz1⟩
  have M1 := Lib.hid hsm
  have B1 := Lib.hid hB1
  clear hsm hB1
  go_wp2_with fail
  refine (P1 _ _ (si_lit W1 5 (1, 2) [115])).mono ?_; rintro _ w2 ⟨⟨D, d, E, d', rfl, ⟨q1, q2, hsD⟩, ⟨q3, q4, hsE⟩⟩, b⟩
  have b' := below_on ((Below.refl W1.heap.size W1).alloc (Nat.le_refl _) _) b
  have B2 := Lib.hid (below_on B1.out b')
  have M2 := Lib.hid (M1.out.on b')
  have HD := Lib.hid hsD
  have HE := Lib.hid hsE
  have QD := Lib.hid (And.intro q1 q2)
  clear b b' hsD hsE q1 q2 q3 q4 P1 M1
  go_upto_region 3 with (fail)
  refine wp_named (fun W => Blk W w2.heap.size 26 #[.int .i64 2, .int .i64 3, .int .u64 key, .slice D 3 d] ∧ Below w2.heap.size w2 W) ⟨Blk.new_at w2 _ _ rfl, (Below.refl w2.heap.size w2).alloc (Nat.le_refl _) _⟩ ?_
  rintro W3 ⟨hk, hB⟩
  have KC := Lib.hid hk
  have B3 := Lib.hid (below_on B2.out hB)
  have M3 := Lib.hid (M2.out.on hB)
  have HD3 := Lib.hid (HD.out.on hB)
  have HE3 := Lib.hid (HE.out.on hB)
  have k0 := hk.cell 0
  have k1 := hk.cell 1
  have k2 := hk.cell 2
  have k3 := hk.cell 3
  clear hk hB M2 HD HE B2
  go_wp2_with fail
  refine (P2.out D d QD.out.1 QD.out.2 E d' _ _ HD3.out M3.out HE3.out).mono ?_; rintro _ w4 ⟨D1, cd, F, cf, rfl, ⟨q1, q2, hs1⟩, ⟨q3, q4, hs2⟩, b⟩
  have B4 := Lib.hid (below_on B3.out b)
  have M4 := Lib.hid (M3.out.on b)
  have HD4 := Lib.hid (HD3.out.on b)
  have HE4 := Lib.hid (HE3.out.on b)
  have KC4 := Lib.hid (KC.out.below b KC.out.lt)
  have H1 := Lib.hid hs1
  have H2 := Lib.hid hs2
  have Q1 := Lib.hid (And.intro q1 q2)
  have Q2 := Lib.hid (And.intro q3 q4)
  clear b hs1 hs2 q1 q2 q3 q4 k0 k1 k2 k3 KC M3 HD3 HE3 B3 P2
  go_upto_region 4 with (fail)
  refine wp_named (fun W => Blk W w4.heap.size 45 #[.int .u64 ch, .int .u64 rs] ∧ Below w4.heap.size w4 W) ⟨Blk.new_at w4 _ _ rfl, (Below.refl w4.heap.size w4).alloc (Nat.le_refl _) _⟩ ?_
  rintro W5 ⟨hk, hB⟩
  have KS := Lib.hid hk
  have KC5 := Lib.hid (KC4.out.below hB KC4.out.lt)
  have B5 := Lib.hid (below_on B4.out hB)
  have M5 := Lib.hid (M4.out.on hB)
  have HD5 := Lib.hid (HD4.out.on hB)
  have HE5 := Lib.hid (HE4.out.on hB)
  have H15 := Lib.hid (H1.out.on hB)
  have H25 := Lib.hid (H2.out.on hB)
  have k0 := KC5.out.cell 0
  have k1 := KC5.out.cell 1
  have k2 := KC5.out.cell 2
  have k3 := KC5.out.cell 3
  clear hk hB M4 HD4 HE4 B4 H1 H2 KC4
  go_wp2_with fail
  refine (P3.out D d QD.out.1 QD.out.2 E d' _ _ HD5.out M5.out HE5.out).mono ?_; rintro _ w6 ⟨v1, v2, rfl, b⟩
  have B6 := Lib.hid (below_on B5.out b)
  have M6 := Lib.hid (M5.out.on b)
  have HD6 := Lib.hid (HD5.out.on b)
  have H16 := Lib.hid (H15.out.on b)
  have H26 := Lib.hid (H25.out.on b)
  have KC6 := Lib.hid (KC5.out.below b KC5.out.lt)
  have KS6 := Lib.hid (KS.out.below b KS.out.lt)
  clear b k0 k1 k2 k3 KC5 KS M5 HD5 HE5 B5 H15 H25 P3
  go_upto_region 7 with (fail)
  refine wp_named (fun W => Below w6.heap.size w6 W) ((Below.refl w6.heap.size w6).alloc (Nat.le_refl _) _) ?_
  rintro W7 hB
  have KS7 := Lib.hid (KS6.out.below hB KS6.out.lt)
  have KC7 := Lib.hid (KC6.out.below hB KC6.out.lt)
  have B7 := Lib.hid (below_on B6.out hB)
  have M7 := Lib.hid (M6.out.on hB)
  have HD7 := Lib.hid (HD6.out.on hB)
  have H17 := Lib.hid (H16.out.on hB)
  have H27 := Lib.hid (H26.out.on hB)
  clear hB KS6 KC6 B6 M6 HD6 H16 H26
  have hps := H27.out
  rw [HQ5.out] at hps
  obtain ⟨ad, hF, had, u0, u1⟩ := hps 0 (by simp)
  obtain ⟨ad2, hF2, _, u2, u3⟩ := hps 1 (by simp)
  have hcs := H17.out
  rw [HC5.out] at hcs
  obtain ⟨ae, hD1, hae, _, _⟩ := hcs 0 (by simp)
  obtain ⟨ae2, hD2, _, v2, _⟩ := hcs 1 (by simp)
  rw [hF] at hF2
  cases hF2
  rw [hD1] at hD2
  cases hD2
  subst hF
  subst hD1
  have u0 : W7.cell? ad = some (.int .i64 p0.1) := by simpa [Addr.add] using u0
  have u1 : W7.cell? ⟨ad.block, ad.off + 1, none⟩ = some (.int .u64 p0.2) := by simpa [Addr.add] using u1
  have u2 : W7.cell? ⟨ad.block, ad.off + 2, none⟩ = some (.int .i64 p1.1) := by simpa [Addr.add] using u2
  have u3 : W7.cell? ⟨ad.block, ad.off + 2 + 1, none⟩ = some (.int .u64 p1.2) := by simpa [Addr.add] using u3
  have v2 : W7.cell? ⟨ae.block, ae.off + 2, none⟩ = some (.int .i64 c1.1) := by simpa [Addr.add] using v2
  have hb2 : ad.block < W7.heap.size := had
  have hb3 : ae.block < W7.heap.size := hae
  have HWF := Lib.hid (show ShFix 2 [p0, (p1.1, radd p1.2 1)] from ⟨by simp, by simp, by unfold maxLen; omega, fun p hp => by
    have h0 := HPU.out p0 (by rw [HQ5.out]; simp)
    have h1 := radd_bound p1.2 1
    simp only [List.mem_cons, List.not_mem_nil, or_false] at hp
    rcases hp with rfl | rfl
    · exact h0
    · exact ⟨h1.1, by show radd p1.2 1 < _; omega⟩⟩)
  have HCX := Lib.hid (show ShFix cd CS from ⟨by have := HCL.out; omega, by have := HCL.out; have := Q1.out.1; omega, Q1.out.2, HCU.out⟩)
  have P4b := Lib.hid (fun W => (P4.out W).mono fun r w' h => (⟨h.1, h.2 ▸ Below.refl W.heap.size W⟩ : r = .returned (.int .u64 (radd p1.2 1)) ∧ Below W.heap.size W w'))
  have hW : Below W7.heap.size W7 W7.drew := (Below.refl W7.heap.size W7).drew
  clear hps hcs P4
  obtain ⟨q1, hq1⟩ : ∃ q1 : Int × Int, (p1.1, radd p1.2 1) = q1 := ⟨_, rfl⟩
  have hq11 : p1.1 = q1.1 := by rw [← hq1]
  have hq12 : radd p1.2 1 = q1.2 := by rw [← hq1]
  rw [hq12] at P4b
  rw [hq1] at HWF P5
  rw [hq11] at u2
  have HPA1 := Lib.hid (hq11.symm.trans HPA.out)
  clear hq1 hq11 hq12
  go_cut [13] (fun s13 wx => ∃ g, s13 = .slice (some ⟨g, 0, none⟩) 2 2 ∧ Blk wx g 37 (cells2 [p0, q1]).toArray ∧ Below W7.heap.size W7 wx)
  case first =>
    go_region_held_law (fun w' => w'.cell? ad = some (.int .i64 p0.1) ∧ w'.cell? ⟨ad.block, ad.off + 1, none⟩ = some (.int .u64 p0.2) ∧ w'.cell? ⟨ad.block, ad.off + 2, none⟩ = some (.int .i64 q1.1) ∧ w'.cell? ⟨ad.block, ad.off + 2 + 1, none⟩ = some (.int .u64 p1.2)) (first | exact ⟨by assumption, by assumption, by assumption, by assumption⟩ | go_keep)
      (first
        | (go_at_call 30; refine (P4b.out _).mono ?_; rintro _ w8 ⟨rfl, bb⟩; have hW := below_on hW bb; have x0 := (hW.cell (p := ad) had).trans u0; have x1 := (hW.cell (p := ⟨ad.block, ad.off + 1, none⟩) had).trans u1; have x2 := (hW.cell (p := ⟨ad.block, ad.off + 2, none⟩) hb2).trans u2; have x3 := (hW.cell (p := ⟨ad.block, ad.off + 2 + 1, none⟩) hb2).trans u3))
    all_goals
      clear x0 x1 x2 x3 u0 u1 u2 u3 v2
      go_wp2_with fail
      go_meet
      exact ⟨w8.heap.size, rfl, Blk.new_at w8 _ _ rfl, hW.alloc hW.size _⟩
  case rest =>
    obtain ⟨g, rfl, hkw, hB⟩ := hcut
    have KW := Lib.hid hkw
    have KS8 := Lib.hid (KS7.out.below hB KS7.out.lt)
    have kc8 := KC7.out.below hB KC7.out.lt
    have KC8 := Lib.hid kc8
    have B8 := Lib.hid (below_on B7.out hB)
    have M8 := Lib.hid (M7.out.on hB)
    have HD8 := Lib.hid (HD7.out.on hB)
    have H18 := Lib.hid (H17.out.on hB)
    have u2 := (hB.cell (p := ⟨ad.block, ad.off + 2, none⟩) hb2).trans u2
    have v2 := (hB.cell (p := ⟨ae.block, ae.off + 2, none⟩) hb3).trans v2
    have k0 := kc8.cell 0
    have k1 := kc8.cell 1
    have k2 := kc8.cell 2
    have k3 := kc8.cell 3
    have hzB := hB.size
    clear hW hkw hB kc8 u0 u1 u3 KS7 KC7 B7 M7 HD7 H17 H27
    go_wp2_with fail
    refine (P5.out D d QD.out.1 QD.out.2 _ (some ae) cd HCX.out (some ⟨g, 0, none⟩) 2 HWF.out _ HD8.out M8.out H18.out (ss_blk (l := [p0, q1]) KW.out)).mono ?_; rintro _ w9 ⟨rfl, b⟩
    have KS9 := Lib.hid (KS8.out.below b KS8.out.lt)
    have KC9 := Lib.hid (KC8.out.below b KC8.out.lt)
    have B9 := Lib.hid (below_on B8.out b)
    have M9 := Lib.hid (M8.out.on b)
    have HD9 := Lib.hid (HD8.out.on b)
    have u2 := (b.cell (p := ⟨ad.block, ad.off + 2, none⟩) (by simp only []; omega)).trans u2
    have v2 := (b.cell (p := ⟨ae.block, ae.off + 2, none⟩) (by simp only []; omega)).trans v2
    have hz9 := b.size
    rw [HPA1.out] at u2
    rw [HCA.out] at v2
    clear b k0 k1 k2 k3 KS8 KC8 B8 M8 HD8 H18 KW
    go_upto_region 9 with (fail)
    refine wp_named (fun W => Below w9.heap.size w9 W) ((Below.refl w9.heap.size w9).alloc (Nat.le_refl _) _) ?_
    rintro W10 hB
    have ks := KS9.out.below hB KS9.out.lt
    have kcc := KC9.out.below hB KC9.out.lt
    have KC10 := Lib.hid kcc
    have B10 := Lib.hid (below_on B9.out hB)
    have M10 := Lib.hid (M9.out.on hB)
    have HD10 := Lib.hid (HD9.out.on hB)
    have u2 := (hB.cell (p := ⟨ad.block, ad.off + 2, none⟩) (by simp only []; omega)).trans u2
    have v2 := (hB.cell (p := ⟨ae.block, ae.off + 2, none⟩) (by simp only []; omega)).trans v2
    have s0 := ks.cell 0
    have s1 := ks.cell 1
    have k2 := kcc.cell 2
    have hz10 := hB.size
    clear hB ks kcc KS9 KC9 B9 M9 HD9
    go_wp2_with fail
    refine (P6.out _ _ M10.out).mono ?_; rintro _ w11 ⟨rfl, b⟩
    have kcc := KC10.out.below b KC10.out.lt
    have B11 := Lib.hid (below_on B10.out b)
    have HD11 := Lib.hid (HD10.out.on b)
    have u2 := (b.cell (p := ⟨ad.block, ad.off + 2, none⟩) (by simp only []; omega)).trans u2
    have v2 := (b.cell (p := ⟨ae.block, ae.off + 2, none⟩) (by simp only []; omega)).trans v2
    have k0 := kcc.cell 0
    have k1 := kcc.cell 1
    have k2 := kcc.cell 2
    have k3 := kcc.cell 3
    have hz11 := b.size
    clear b s0 s1 kcc KC10 M10 HD10 B10
    go_wp2_with fail
    refine (P7.out D d QD.out.1 QD.out.2 _ HD11.out).mono ?_; rintro _ w12 ⟨rfl, b⟩
    have B12 := Lib.hid (below_on B11.out b)
    have u2 := (b.cell (p := ⟨ad.block, ad.off + 2, none⟩) (by simp only []; omega)).trans u2
    have v2 := (b.cell (p := ⟨ae.block, ae.off + 2, none⟩) (by simp only []; omega)).trans v2
    have hz12 := b.size
    clear b k0 k1 k2 k3 HD11 B11
    go_wp2_with fail
    refine (P8.out _ (fun j hj => absurd hj (by simp))).mono ?_; rintro _ w13 ⟨rfl, b⟩
    have B13 := Lib.hid (below_on B12.out b)
    have u2 := (b.cell (p := ⟨ad.block, ad.off + 2, none⟩) (by simp only []; omega)).trans u2
    have v2 := (b.cell (p := ⟨ae.block, ae.off + 2, none⟩) (by simp only []; omega)).trans v2
    clear b B12
    go_wp2_with fail
    go_ret
    exact ⟨rfl, B13.out⟩
end Go.Proofs.YtlannmedefjfhaaGreat

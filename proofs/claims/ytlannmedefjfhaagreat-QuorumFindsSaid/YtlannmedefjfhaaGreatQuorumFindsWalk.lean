/- The walk of the law QuorumFinds. -/
import Derived.Test.YtlannmedefjfhaaGreatQuorumAnyWalk
import Derived.Test.YtlannmedefjfhaaGreatShareHidesMath
namespace Go.Proofs.YtlannmedefjfhaaGreat
open Go.ChangeShapes Go.WideShapes Go.ChangeAt Go.RowKit Gs
set_option linter.unusedVariables false

theorem all_bits : ∀ k, k < 7 → bitAt 127 k = 1 := by unfold bitAt; simp only [bit_and_one]; decide
theorem sum_all : ∀ k, k ≤ 7 → sumB 127 k = k
  | 0, _ => rfl
  | k + 1, h => by
    show sumB 127 k + bitAt 127 k = ((k + 1 : Nat) : Int)
    rw [sum_all k (by omega), all_bits k (by omega)]; omega
theorem ss_put {w : World} {B g : Nat} {l : List (Int × Int)} (h : SS w B (some ⟨g, 0, none⟩) l) (k : Nat) (hk : k < l.length) (y : Int) : SS (w.setCell ⟨g, k * 2 + 1, none⟩ (.int .u64 y)) B (some ⟨g, 0, none⟩) (l.set k (l[k].1, y)) := fun j hj => by
  have hj' : j < l.length := by simpa using hj
  obtain ⟨ad, e, hb, c0, c1⟩ := h j hj'
  cases e
  rw [add_at] at c0 c1
  refine ⟨_, rfl, hb, ?_, ?_⟩
  · rw [add_at, World.cell?_setCell_other _ _ _ _ (by intro e; have := congrArg Addr.off e; simp at this; omega), c0, List.getElem_set]
    split
    · rename_i e; subst e; rfl
    · rfl
  · rw [add_at]
    show (w.setCell ⟨g, k * 2 + 1, none⟩ (.int .u64 y)).cell? ⟨g, j * 2 + 1, none⟩ = _
    by_cases e : k = j
    · subst e
      rw [World.cell?_setCell_same _ _ _ c1, List.getElem_set_self]
    · rw [World.cell?_setCell_other _ _ _ _ (by intro e'; have := congrArg Addr.off e'; simp at this; omega), List.getElem_set_ne e]
      exact c1
theorem ss_reads {w : World} {B : Nat} {A : Option Addr} {l : List (Int × Int)} (h : SS w B A l) (n : Nat) (hn : l.length = n) : Reads w B 2 A n (cells2 l) := by
  subst hn
  refine ⟨cells2_length l, fun h0 => ?_⟩
  obtain ⟨ad, e, hb, _⟩ := h 0 h0
  refine ⟨ad, e, hb, fun j u hu => ?_⟩
  have hj : j < (cells2 l).length := (List.getElem?_eq_some_iff.1 hu).1
  rw [cells2_length] at hj
  obtain ⟨ad', e', _, c0, c1⟩ := h (j / 2) (by omega)
  rw [e] at e'
  cases e'
  have hc := cells2_at l (j / 2) (by omega)
  by_cases hp : j % 2 = 0
  · have e2 : j / 2 * 2 = j := by omega
    rw [e2] at hc c0
    rw [hc.1] at hu
    cases hu
    exact c0
  · have e2 : j / 2 * 2 + 1 = j := by omega
    rw [e2] at hc
    rw [hc.2] at hu
    cases hu
    have e3 : (⟨(ad.add (j / 2 * 2)).block, (ad.add (j / 2 * 2)).off + 1, none⟩ : Addr) = ad.add j := by
      unfold Addr.add
      by_cases hz : j / 2 * 2 = 0
      · simp [show j = 1 by omega]
      · simp [hz, show j ≠ 0 by omega]; omega
    rw [← e3]
    exact c1
theorem picked_cpart {T : Int} {N : Nat} {K who n : Int} {pol ms : List Int} (hcr : crewF T (N : Int) K (spubs (csplit pol N)) = 0) (he : ¬ ((comsB who n ms (csplit pol N) N).length : Int) < T) : ∀ p ∈ partsB K who n ms (csplit pol N) (comsB who n ms (csplit pol N) N) N, cpartF T (N : Int) K (spubs (csplit pol N)) ms (comsB who n ms (csplit pol N) N) p = 0 ∧ ∀ b : Int, b % 1152921504606845789 ≠ 0 → cpartF T (N : Int) K (spubs (csplit pol N)) ms (comsB who n ms (csplit pol N) N) (p.1, radd p.2 b) = 60 := fun p hp => by
  have h1 : headF T (N : Int) K (spubs (csplit pol N)) (comsB who n ms (csplit pol N) N) = 0 := by rw [picked_head hcr]; exact if_neg he
  obtain ⟨x, hx, rfl⟩ := List.mem_map.1 hp
  have h2 := picked_parts (who := who) (c := pol) (N := N) n ms K x hx
  unfold cpartF
  refine ⟨by rw [if_pos h1]; exact h2, fun b hb => ?_⟩
  rw [if_pos h1]
  exact other_part (i := (qpart K n ms (comsB who n ms (csplit pol N) N) x).1) (qpart_rb _ _ _ _ _) (radd_bound _ _) h2 (radd_ne (qpart_rb _ _ _ _ _) hb)

set_option maxRecDepth 100000 in
set_option maxHeartbeats 4000000 in
theorem finds_ok (T N : Nat) (t1 : 1 ≤ T) (tn : T ≤ N) (n7 : N ≤ 7) (A0 : Option Addr) (c0 : Nat) (xs0 : List Int) (ss : Int) (A5 : Option Addr) (c5 : Nat) (xs5 : List Int) (kk by_ : Int) [IsU by_] (h0 : ByFix c0 xs0) (h5 : ByFix c5 xs5) (l0 : xs0.length ≤ 200) (l5 : xs5.length ≤ 200) (s0 : 0 ≤ ss) (s1 : ss ≤ 1099511627776) (k0 : 0 ≤ kk) (hby : by_ % 1152921504606845789 ≠ 0) (w : World) (hs0 : SI w w.heap.size .u8 A0 xs0) (hs5 : SI w w.heap.size .u8 A5 xs5) :
    Calls Tryz.prog 9 #[.slice A0 xs0.length c0, .int .i64 (T : Int), .int .i64 (N : Int), .int .i64 ss, .slice A5 xs5.length c5, .int .i64 kk, .int .u64 by_] w fun e w' => e = .returned (.bool true) ∧ Below w.heap.size w w' := by
  have B0 := Lib.hid (Below.refl w.heap.size w)
  have S0 := Lib.hid hs0
  have S5 := Lib.hid hs5
  have P1 := Lib.hid (fun W h => Deal_ok T N t1 tn n7 A0 c0 xs0 h0 W h)
  have HCR := Lib.hid (dealt_zero (xs := xs0) (ssecret_rb xs0) t1 tn n7)
  have HFX := Lib.hid (fun d (h1 : N ≤ d) (h2 : d ≤ maxLen) => fix_pubs (T := T) xs0 h1 h2 n7)
  have hkb := qpow_bound 4 (ssecret xs0)
  have HKU := Lib.hid (show IsU (qpow 4 (ssecret xs0)) from ⟨hkb.1, by omega⟩)
  unfold dshares at P1
  generalize cpoly (ssecret xs0) xs0 T = pol at *
  generalize qpow 4 (ssecret xs0) = key at *
  haveI := HKU.out
  have hcl := coms_sum 127 ss xs5 (csplit pol N) N
  rw [sum_all N n7] at hcl
  have he : ¬ ((comsB 127 ss xs5 (csplit pol N) N).length : Int) < (T : Int) := by omega
  have hpl : (partsB key 127 ss xs5 (csplit pol N) (comsB 127 ss xs5 (csplit pol N) N) N).length = N := by
    have h := pickB_len 127 (csplit pol N) N
    rw [sum_all N n7] at h
    unfold partsB
    rw [List.length_map]
    omega
  have P3 := Lib.hid (fun D d (h1 : N ≤ d) (h2 : d ≤ maxLen) E d' W a1 a2 a3 => signed_ok T N key 127 ss D d pol (HFX.out d h1 h2) A5 c5 xs5 h5 n7 s0 s1 HCR.out he E d' W a1 a2 a3)
  have HCP := Lib.hid (picked_cpart (who := 127) (n := ss) (ms := xs5) (K := key) HCR.out he)
  have hcu := comsB_u 127 ss xs5 (csplit pol N) N
  have hpu := partsB_u key 127 ss xs5 (csplit pol N) (comsB 127 ss xs5 (csplit pol N) N) N
  obtain ⟨CS, hCS⟩ : ∃ CS, comsB 127 ss xs5 (csplit pol N) N = CS := ⟨_, rfl⟩
  rw [hCS] at P3 HCP hcl hpl he hcu hpu
  obtain ⟨PS, hPS⟩ : ∃ PS, partsB key 127 ss xs5 (csplit pol N) CS N = PS := ⟨_, rfl⟩
  rw [hPS] at P3 HCP hpl hpu
  obtain ⟨b_, hb_⟩ : ∃ b_, by_ % 1152921504606845789 = b_ := ⟨_, rfl⟩
  have hbb : 0 ≤ b_ ∧ b_ < 1152921504606845789 := by omega
  have hbn : b_ % 1152921504606845789 ≠ 0 := by omega
  have HW := Lib.hid (fun q (hq : q < PS.length) => wrong_comb2 (who := 127) (n := ss) (ms := xs5) (K := key) HCR.out b_ hbn CS PS hCS hPS he q hq)
  have HBY := Lib.hid hbn
  haveI : IsU b_ := ⟨hbb.1, by omega⟩
  have HCL := Lib.hid (show CS.length = N by omega)
  have HPL := Lib.hid hpl
  have HPU := Lib.hid hpu
  have HPN := Lib.hid (show (spubs (csplit pol N)).length = N by rw [spubs_length, csplit_length])
  have P4 := Lib.hid (fun D d (h1 : N ≤ d) (h2 : d ≤ maxLen) D1 cd (hc : ShFix cd CS) (p : Int × Int) (hu : IsU p.2) W a1 a2 a3 => CheckPart_any (T : Int) (N : Int) key D d (spubs (csplit pol N)) (HFX.out d h1 h2) A5 c5 xs5 h5 D1 cd CS hc p W a1 a2 a3)
  have P5 := Lib.hid (fun D d (h1 : N ≤ d) (h2 : d ≤ maxLen) D1 cd (hc : ShFix cd CS) F cf l (hf : ShFix cf l) W a1 a2 a3 a4 => Combine_any (T : Int) (N : Int) key D d (spubs (csplit pol N)) (HFX.out d h1 h2) A5 c5 xs5 h5 D1 cd CS hc F cf l hf W a1 a2 a3 a4)
  rw [HPN.out] at P4 P5
  rw [HCL.out] at P3 P4 P5
  rw [HPL.out] at P3
  unfold crewV at P1 P3 P4 P5
  have HCU := Lib.hid hcu
  have q1 : decide (200 < (xs0.length : Int)) = false := decide_eq_false (by omega)
  have q2 : decide (200 < (xs5.length : Int)) = false := decide_eq_false (by omega)
  have q3 : decide (ss < 0) = false := decide_eq_false (by omega)
  have q4 : decide (1099511627776 < ss) = false := decide_eq_false (by omega)
  have q5 : decide (kk < 0) = false := decide_eq_false (by omega)
  have by0 : 0 ≤ by_ := (inferInstance : IsU by_).1
  have q6 : (b_ == 0) = false := by rw [← hb_]; simpa using hby
  have HB_ := Lib.hid hb_
  have hn0 : 0 < (N : Int) := by omega
  obtain ⟨q, hq⟩ : ∃ q : Nat, kk % (N : Int) = (q : Int) := ⟨(kk % (N : Int)).toNat, by have := Int.emod_nonneg kk (show (N : Int) ≠ 0 by omega); omega⟩
  have hqN : q < N := by have := Int.emod_lt_of_pos kk hn0; omega
  obtain ⟨j0, hj, hy0, hy1, hy2⟩ := info_parts Tryz.info37
  have HJ := Lib.hid (And.intro hj (And.intro hy0 (And.intro hy1 hy2)))
  clear hs0 hs5 h0 h5 hkb HKU he hCS hPS hcl hpl hby hbn hbb hcu hpu hj hy0 hy1 hy2
  generalize spubs (csplit pol N) = psb at *
  generalize csplit pol N = l at *
  go_enter Tryz.func9, Tryz.ntmps9
  go_wp2_with fail
  refine (live6 _).mono ?_; rintro _ w1 ⟨rfl, b⟩; have B1 := Lib.hid (below_on B0.out b); clear b
  go_wp2_with fail
  refine (P1.out _ (S0.out.on B1.out)).mono ?_; rintro _ w2 ⟨⟨D, d, E, d', rfl, ⟨q1', q2', hsD⟩, ⟨q3', q4', hsE⟩⟩, b⟩
  have B2 := Lib.hid (below_on B1.out b)
  have QD := Lib.hid (And.intro q1' q2')
  have HD := Lib.hid hsD
  have HE := Lib.hid hsE
  clear b q1' q2' q3' q4' hsD hsE
  go_upto_region 7 with (fail)
  refine wp_named (fun W => Blk W w2.heap.size 26 #[.int .i64 (T : Int), .int .i64 (N : Int), .int .u64 key, .slice D N d] ∧ Below w2.heap.size w2 W) ⟨Blk.new_at w2 _ _ rfl, (Below.refl w2.heap.size w2).alloc (Nat.le_refl _) _⟩ ?_
  rintro W3 ⟨hk, hB⟩
  have KC := Lib.hid hk
  have B3 := Lib.hid (below_on B2.out hB)
  have HD3 := Lib.hid (HD.out.on hB)
  have HE3 := Lib.hid (HE.out.on hB)
  have k0 := hk.cell 0
  have k1 := hk.cell 1
  have k2 := hk.cell 2
  have k3 := hk.cell 3
  clear hk hB HD HE B2
  have qn : ((N : Int) != (N : Int)) = false := by simp
  go_wp2_with fail
  refine (P3.out D d QD.out.1 QD.out.2 E d' _ HD3.out (S5.out.on B3.out) HE3.out).mono ?_; rintro _ w5 ⟨D1, cd, F, cf, rfl, ⟨r1, r2, hs1⟩, ⟨r3, r4, hs2⟩, b⟩
  have HCX := Lib.hid (show ShFix cd CS from ⟨by rw [HCL.out]; omega, by rw [HCL.out]; exact r1, r2, HCU.out⟩)
  have B5 := Lib.hid (below_on B3.out b)
  have KC5 := Lib.hid (KC.out.below b KC.out.lt)
  have HD5 := Lib.hid (HD3.out.on b)
  have H1 := Lib.hid hs1
  have H2 := Lib.hid hs2
  clear b r1 r2 r3 r4 hs1 hs2 k0 k1 k2 k3 KC HD3 HE3 B3 P3
  go_upto_region 12 with (fail)
  refine wp_named (fun W => Below w5.heap.size w5 W) ((Below.refl w5.heap.size w5).alloc (Nat.le_refl _) _) ?_
  rintro W6 hB
  have B6 := Lib.hid (below_on B5.out hB)
  have KC6 := Lib.hid (KC5.out.below hB KC5.out.lt)
  have HD6 := Lib.hid (HD5.out.on hB)
  have H16 := Lib.hid (H1.out.on hB)
  have H26 := Lib.hid (H2.out.on hB)
  have S56 := Lib.hid (S5.out.on B6.out)
  clear hB KC5 HD5 H1 H2 B5
  have kn0 : (0 : Int) ≤ kk := k0
  go_wp2_with fail
  rw [hq]
  clear hq
  go_loopw [24] (fun i wr => ∃ k : Nat, k ≤ N ∧ i = .int .i64 k ∧ Below W6.heap.size W6 wr) (fun i _ => N - (intOf i).toNat)
  case atStart => exact ⟨0, by omega, rfl, Below.refl _ _⟩
  case round =>
    obtain ⟨k, hk, rfl, hb⟩ := hrel
    have HBq := Lib.hid hb
    have hzq := hb.size
    have kq := KC6.out.below hb KC6.out.lt
    have KCq := Lib.hid kq
    have d0 := kq.cell 0
    have d1 := kq.cell 1
    have d2 := kq.cell 2
    have d3 := kq.cell 3
    have hwq := kq.lt
    clear hb kq
    by_cases hlt : k < N
    · have hkp : k < PS.length := by rw [HPL.out]; exact hlt
      obtain ⟨ad, rfl, had, c0, c1⟩ := ((H26.out).below HBq.out) k hkp
      have hbk : (ad.add (k * 2)).block < wr.heap.size := by rw [block_of_add]; omega
      have HZ := Lib.hid (HCP.out PS[k] (List.getElem_mem hkp)).1
      have hx := HPU.out PS[k] (List.getElem_mem hkp)
      have P4x := Lib.hid (P4.out D d QD.out.1 QD.out.2 D1 cd HCX.out PS[k] ⟨hx.1, hx.2⟩)
      rw [HZ.out] at P4x
      clear hx HZ
      generalize PS[k] = x at *
      have hW : Below wr.heap.size wr wr.drew := (Below.refl wr.heap.size wr).drew
      go_wp2_with fail
      go_region_held_law (fun w' => w'.cell? ⟨w2.heap.size, 0, none⟩ = some (.int .i64 (T : Int)) ∧ w'.cell? ⟨w2.heap.size, 1, none⟩ = some (.int .i64 (N : Int)) ∧ w'.cell? ⟨w2.heap.size, 2, none⟩ = some (.int .u64 key) ∧ w'.cell? ⟨w2.heap.size, 3, none⟩ = some (.slice D N d) ∧ w'.cell? (ad.add (k * 2)) = some (.int .i64 x.1) ∧ w'.cell? ⟨(ad.add (k * 2)).block, (ad.add (k * 2)).off + 1, none⟩ = some (.int .u64 x.2)) (first | exact ⟨by assumption, by assumption, by assumption, by assumption, by assumption, by assumption⟩ | go_keep)
        (first
          | (go_at_call 24; refine (P4x.out _ (HD6.out.on (below_on HBq.out hW)) (S56.out.on (below_on HBq.out hW)) (H16.out.on (below_on HBq.out hW))).mono ?_; rintro _ w7 ⟨rfl, bb⟩; have hW := below_on hW bb; have e0 := (hW.cell (p := ⟨w2.heap.size, 0, none⟩) hwq).trans d0; have e1 := (hW.cell (p := ⟨w2.heap.size, 1, none⟩) hwq).trans d1; have e2 := (hW.cell (p := ⟨w2.heap.size, 2, none⟩) hwq).trans d2; have e3 := (hW.cell (p := ⟨w2.heap.size, 3, none⟩) hwq).trans d3; have a0 := (hW.cell (p := ad.add (k * 2)) hbk).trans c0; have a1 := (hW.cell (p := ⟨(ad.add (k * 2)).block, (ad.add (k * 2)).off + 1, none⟩) hbk).trans c1))
      have HV := Lib.hid (below_on HBq.out hW)
      clear hW e0 e1 e2 e3 a0 a1 c0 c1 d0 d1 d2 d3
      go_wp2_with fail
      go_roundw
      case rel => exact ⟨k + 1, by omega, by go_num, HV.out⟩
      case measure => simp [intOf]; omega
    · obtain rfl : N = k := by omega
      have HDq := Lib.hid (HD6.out.on HBq.out)
      have H1q := Lib.hid (H16.out.on HBq.out)
      have H2q := Lib.hid (H26.out.on HBq.out)
      have S5q := Lib.hid (S56.out.on HBq.out)
      have B7 := Lib.hid (below_on B6.out HBq.out)
      clear d0 d1 d2 d3 HD6 H16 H26 S56 B6
      go_wp2_with (at_builtin; refine wpList_append_any _ rfl _ _ 24 rfl wr.heap.size 37 j0 (.agg #[.int .i64 0, .int .u64 0]) 2 16 Tryz.underlying24 HJ.out.1 HJ.out.2.1 HJ.out.2.2.1 HJ.out.2.2.2 rfl (by decide) _ _ _ rfl (own_noneS wr (Nat.le_refl _)) _ _ N _ (cells2 PS) rfl (ss_reads (H2q.out.on ((Below.refl wr.heap.size wr).alloc (Nat.le_refl _) _)) N HPL.out) (cells2_one _) (by first | (unfold maxLen; simp only [List.length_nil]; omega) | (unfold maxLen; simp; omega)) (by first | omega | (simp only [List.length_nil]; omega) | (simp; omega) | simp) (by first | simp | (simp; omega)) ?_; intro v' w7 hown' hgrow _; have HO7 := Lib.hid hown'; have HG := Lib.hid hgrow; clear hown' hgrow)
      have B27 := Lib.hid (((Below.refl wr.heap.size wr).alloc (Nat.le_refl _) (.cells #[] 37)).grown HG.out (by simp) (fun g e => own_ge (own_noneS wr (Nat.le_refl _)) g e))
      have hob : OwnS w7 wr.heap.size v' PS := own_s HO7.out (by rw [HPL.out]; simp) rfl
      have hqP : q < PS.length := by rw [HPL.out]; exact hqN
      obtain ⟨gg, cg, hv', hgb, hgc, hgm⟩ : ∃ gg cg, v' = .slice (some ⟨gg, 0, none⟩) PS.length cg ∧ wr.heap.size ≤ gg ∧ PS.length ≤ cg ∧ cg ≤ maxLen := by
        rcases hob.2 with ⟨_, h0⟩ | ⟨g, cap, cur, e, hb, _, hn, hc, _⟩
        · omega
        · exact ⟨g, cap, e, hb, hn, hc⟩
      subst hv'
      obtain ⟨G0, cg', hE0, _, _, hsG, _⟩ := own_sliceS hob
      have hG0 : (some ⟨gg, 0, none⟩ : Option Addr) = G0 := by injection hE0
      subst hG0
      have fz := World.ownsRow.frozenAt hob (q * 2 + 1)
      obtain ⟨ag, hAg, hag, z0, z1⟩ := hsG q hqP
      cases hAg
      rw [add_at] at z0 z1
      have z0 : w7.cell? ⟨gg, q * 2, none⟩ = some (.int .i64 PS[q].1) := z0
      have z1 : w7.cell? ⟨gg, q * 2 + 1, none⟩ = some (.int .u64 PS[q].2) := z1
      have hx := HPU.out PS[q] (List.getElem_mem hqP)
      haveI : IsU PS[q].2 := ⟨hx.1, hx.2⟩
      have PA := Lib.hid (AddR_r PS[q].2 b_)
      have hrb := radd_bound PS[q].2 b_
      have HW2 := Lib.hid (HW.out q hqP)
      have HC60 := Lib.hid ((HCP.out PS[q] (List.getElem_mem hqP)).2 b_ HBY.out)
      have HSW := Lib.hid (ss_put hsG q hqP (radd PS[q].2 b_))
      have HWF := Lib.hid (show ShFix cg (PS.set q (PS[q].1, radd PS[q].2 b_)) from ⟨by rw [List.length_set]; have := HPL.out; omega, by rw [List.length_set]; exact hgc, hgm, fun p hp => by
        rcases List.mem_or_eq_of_mem_set hp with h | rfl
        · exact HPU.out p h
        · exact ⟨hrb.1, by show radd PS[q].2 b_ < _; omega⟩⟩)
      have HWL := Lib.hid (show (PS.set q (PS[q].1, radd PS[q].2 b_)).length = N by rw [List.length_set, HPL.out])
      have P5x := Lib.hid (P5.out D d QD.out.1 QD.out.2 D1 cd HCX.out (some ⟨gg, 0, none⟩) cg (PS.set q (PS[q].1, radd PS[q].2 b_)) HWF.out)
      rw [HW2.out.1, HW2.out.2, HWL.out] at P5x
      have P4x := Lib.hid (P4.out D d QD.out.1 QD.out.2 D1 cd HCX.out (PS[q].1, radd PS[q].2 b_) ⟨hrb.1, by show radd PS[q].2 b_ < _; omega⟩)
      rw [HC60.out] at P4x
      have h60 : (PS.set q (PS[q].1, radd PS[q].2 b_))[q]'(by rw [HWL.out]; exact hqN) = (PS[q].1, radd PS[q].2 b_) := List.getElem_set_self _
      have HWQ := Lib.hid (fun (W : World) (B : Nat) (h : SS W B (some ⟨gg, 0, none⟩) (PS.set q (PS[q].1, radd PS[q].2 b_))) => (show W.cell? ⟨gg, q * 2, none⟩ = some (.int .i64 PS[q].1) ∧ W.cell? ⟨gg, q * 2 + 1, none⟩ = some (.int .u64 (radd PS[q].2 b_)) from by
        obtain ⟨a, e, _, y0, y1⟩ := h q (by rw [HWL.out]; exact hqN)
        cases e
        rw [add_at] at y0 y1
        rw [h60] at y0 y1
        exact ⟨y0, y1⟩))
      rw [HPL.out]
      have HQI := Lib.hid h60
      clear hob hE0 hsG hx hrb h60 HW HC60 HO7 HW2
      generalize PS.set q (PS[q].1, radd PS[q].2 b_) = PW at *
      generalize radd PS[q].2 b_ = y2 at *
      generalize PS[q].2 = y3 at *
      generalize PS[q].1 = y1 at *
      have hqi : (q : Int) < (N : Int) := by omega
      have hq0 : (0 : Int) ≤ (q : Int) := by omega
      go_wp2_with fail
      refine (PA.out _).mono ?_; rintro _ _ ⟨rfl, rfl⟩
      go_upto_region 20 with (fail)
      refine wp_named (fun W => SS W W.heap.size (some ⟨gg, 0, none⟩) PW ∧ Below wr.heap.size wr W) ⟨HSW.out.more (below_setQ (Below.refl 0 w7) (Nat.zero_le _) _).size, below_setQ B27.out hgb _⟩ ?_
      clear z0 z1 fz HSW B27
      rintro W8 ⟨hsw, hB8⟩
      have HSW8 := Lib.hid hsw
      have B8 := Lib.hid (below_on B7.out hB8)
      have HD8 := Lib.hid (HDq.out.on hB8)
      have H18 := Lib.hid (H1q.out.on hB8)
      have S58 := Lib.hid (S5q.out.on hB8)
      have kc8 := KCq.out.below hB8 KCq.out.lt
      have KC8 := Lib.hid kc8
      have d0 := kc8.cell 0
      have d1 := kc8.cell 1
      have d2 := kc8.cell 2
      have d3 := kc8.cell 3
      clear hsw hB8 kc8 KCq HDq H1q H2q S5q B7
      go_wp2_with fail
      refine (P5x.out _ HD8.out S58.out H18.out HSW8.out).mono ?_; rintro _ w9 ⟨rfl, b⟩
      have b' := b.alloc b.size (.cells #[.int .u64 0, .int .u64 0] 45)
      have B9 := Lib.hid (below_on B8.out b')
      have HD9 := Lib.hid (HD8.out.on b')
      have H19 := Lib.hid (H18.out.on b')
      have S59 := Lib.hid (S58.out.on b')
      have hsw9 := HSW8.out.on b'
      have kc9 := KC8.out.below b' KC8.out.lt
      clear d0 d1 d2 d3
      have d0 := kc9.cell 0
      have d1 := kc9.cell 1
      have d2 := kc9.cell 2
      have d3 := kc9.cell 3
      have u0 := (HWQ.out _ _ hsw9).1
      have u1 := (HWQ.out _ _ hsw9).2
      have hgl : gg < (w9.alloc (.cells #[.int .u64 0, .int .u64 0] 45)).heap.size := by
        obtain ⟨a, e, hb, _⟩ := hsw9 q (by rw [HWL.out]; exact hqN)
        cases e
        exact hb
      have v0 := (Blk.new w9 45 #[.int .u64 0, .int .u64 0]).cell 0
      have v1 := (Blk.new w9 45 #[.int .u64 0, .int .u64 0]).cell 1
      have hwl := kc9.lt
      go_upto_region 21 with (fail)
      refine wp_named (fun W => (W.cell? ⟨w2.heap.size, 0, none⟩ = some (.int .i64 (T : Int)) ∧ W.cell? ⟨w2.heap.size, 1, none⟩ = some (.int .i64 (N : Int)) ∧ W.cell? ⟨w2.heap.size, 2, none⟩ = some (.int .u64 key) ∧ W.cell? ⟨w2.heap.size, 3, none⟩ = some (.slice D N d)) ∧ (W.cell? ⟨gg, q * 2, none⟩ = some (.int .i64 y1) ∧ W.cell? ⟨gg, q * 2 + 1, none⟩ = some (.int .u64 y2) ∧ W.cell? ⟨w9.heap.size, 0, none⟩ = some (.int .u64 0) ∧ W.cell? ⟨w9.heap.size, 1, none⟩ = some (.int .u64 0)) ∧ Below w.heap.size w W ∧ (w2.heap.size < W.heap.size ∧ gg < W.heap.size ∧ w9.heap.size < W.heap.size) ∧ SS W W.heap.size D psb ∧ SS W W.heap.size D1 CS ∧ SI W W.heap.size .u8 A5 xs5) ⟨⟨d0, d1, d2, d3⟩, ⟨u0, u1, v0, v1⟩, B9.out, ⟨hwl, hgl, by simp⟩, HD9.out, H19.out, S59.out⟩ ?_
      clear d0 d1 d2 d3 u0 u1 v0 v1 B9 hwl hgl HD9 H19 S59 b b' hsw9 kc9
      rintro X ⟨⟨d0, d1, d2, d3⟩, ⟨u0, u1, v0, v1⟩, hBX, ⟨hx1, hx2, hx3⟩, hd9, h19, s59⟩
      have BX := Lib.hid hBX
      have HD9 := Lib.hid hd9
      have H19 := Lib.hid h19
      have S59 := Lib.hid s59
      clear hBX hd9 h19 s59
      have hW : Below X.heap.size X X.drew := (Below.refl X.heap.size X).drew
      go_region_held_law (fun w' => w'.cell? ⟨w2.heap.size, 0, none⟩ = some (.int .i64 (T : Int)) ∧ w'.cell? ⟨w2.heap.size, 1, none⟩ = some (.int .i64 (N : Int)) ∧ w'.cell? ⟨w2.heap.size, 2, none⟩ = some (.int .u64 key) ∧ w'.cell? ⟨w2.heap.size, 3, none⟩ = some (.slice D N d) ∧ w'.cell? ⟨gg, q * 2, none⟩ = some (.int .i64 y1) ∧ w'.cell? ⟨gg, q * 2 + 1, none⟩ = some (.int .u64 y2) ∧ w'.cell? ⟨w9.heap.size, 0, none⟩ = some (.int .u64 0) ∧ w'.cell? ⟨w9.heap.size, 1, none⟩ = some (.int .u64 0)) (first | exact ⟨by assumption, by assumption, by assumption, by assumption, by assumption, by assumption, by assumption, by assumption⟩ | go_keep)
        (first
          | (go_at_call 24; refine (P4x.out _ (HD9.out.on hW) (S59.out.on hW) (H19.out.on hW)).mono ?_; rintro _ w10 ⟨rfl, bb⟩; have hW := below_on hW bb; have e0 := (hW.cell (p := ⟨w2.heap.size, 0, none⟩) hx1).trans d0; have e1 := (hW.cell (p := ⟨w2.heap.size, 1, none⟩) hx1).trans d1; have e2 := (hW.cell (p := ⟨w2.heap.size, 2, none⟩) hx1).trans d2; have e3 := (hW.cell (p := ⟨w2.heap.size, 3, none⟩) hx1).trans d3; have f0 := (hW.cell (p := ⟨gg, q * 2, none⟩) hx2).trans u0; have f1 := (hW.cell (p := ⟨gg, q * 2 + 1, none⟩) hx2).trans u1; have f2 := (hW.cell (p := ⟨w9.heap.size, 0, none⟩) hx3).trans v0; have f3 := (hW.cell (p := ⟨w9.heap.size, 1, none⟩) hx3).trans v1))
      have BY := Lib.hid (below_on BX.out hW)
      clear hW e0 e1 e2 e3 f0 f1 f2 f3 d0 d1 d2 d3 u0 u1 v0 v1
      go_wp2_with fail
      go_ret
      exact ⟨by first | rfl | simp, BY.out⟩
theorem finds_bad (t n : Int) (A0 : Option Addr) (c0 : Nat) (xs0 : List Int) (ss : Int) (A5 : Option Addr) (c5 : Nat) (xs5 : List Int) (kk by_ : Int) [IsU by_] (h0 : ByFix c0 xs0) (l0 : xs0.length ≤ 200) (l5 : xs5.length ≤ 200) (s0 : 0 ≤ ss) (s1 : ss ≤ 1099511627776) (k0 : 0 ≤ kk) (hby : by_ % 1152921504606845789 ≠ 0) (hb : ¬ SplitI (ssecret xs0) t n) (w : World) (hs0 : SI w w.heap.size .u8 A0 xs0) :
    Calls Tryz.prog 9 #[.slice A0 xs0.length c0, .int .i64 t, .int .i64 n, .int .i64 ss, .slice A5 xs5.length c5, .int .i64 kk, .int .u64 by_] w fun e w' => e = .returned (.bool true) ∧ Below w.heap.size w w' := by
  have B0 := Lib.hid (Below.refl w.heap.size w)
  have S0 := Lib.hid hs0
  have P1 := Lib.hid (fun W h => Deal_bad t n A0 c0 xs0 h0 hb W h)
  have q1 : decide (200 < (xs0.length : Int)) = false := decide_eq_false (by omega)
  have q2 : decide (200 < (xs5.length : Int)) = false := decide_eq_false (by omega)
  have q3 : decide (ss < 0) = false := decide_eq_false (by omega)
  have q4 : decide (1099511627776 < ss) = false := decide_eq_false (by omega)
  have q5 : decide (kk < 0) = false := decide_eq_false (by omega)
  obtain ⟨b_, hb_⟩ : ∃ b_, by_ % 1152921504606845789 = b_ := ⟨_, rfl⟩
  have hbn : b_ ≠ 0 := by omega
  have by0 : 0 ≤ by_ := (inferInstance : IsU by_).1
  have q6 : (b_ == 0) = false := by simpa using hbn
  unfold crewV at P1
  clear hs0 h0 hb hby hbn
  go_enter Tryz.func9, Tryz.ntmps9
  go_wp2_with fail
  refine (live6 _).mono ?_; rintro _ w1 ⟨rfl, b⟩; have B1 := Lib.hid (below_on B0.out b); clear b
  go_wp2_with fail
  refine (P1.out _ (S0.out.on B1.out)).mono ?_; rintro _ w2 ⟨rfl, b⟩
  have B2 := Lib.hid (below_on B1.out b)
  have k1 := (Blk.new w2 26 #[.int .i64 0, .int .i64 0, .int .u64 0, .slice none 0 0]).cell 1
  clear b
  go_wp2_with fail
  go_ret
  exact ⟨rfl, B2.out.alloc B2.out.size _⟩

theorem finds_off (t n : Int) (A0 : Option Addr) (c0 : Nat) (l0 : Nat) (ss : Int) (A5 : Option Addr) (c5 : Nat) (l5 : Nat) (kk by_ : Int) [IsU by_] (h : ¬ (l0 ≤ 200 ∧ l5 ≤ 200 ∧ 0 ≤ ss ∧ ss ≤ 1099511627776 ∧ 0 ≤ kk ∧ by_ % 1152921504606845789 ≠ 0)) (w : World) :
    Calls Tryz.prog 9 #[.slice A0 l0 c0, .int .i64 t, .int .i64 n, .int .i64 ss, .slice A5 l5 c5, .int .i64 kk, .int .u64 by_] w fun e w' => e = .returned (.bool true) ∧ Below w.heap.size w w' := by
  have h : 200 < l0 ∨ (l0 ≤ 200 ∧ 200 < l5) ∨ (l0 ≤ 200 ∧ l5 ≤ 200 ∧ ss < 0) ∨ (l0 ≤ 200 ∧ l5 ≤ 200 ∧ 0 ≤ ss ∧ 1099511627776 < ss) ∨ (l0 ≤ 200 ∧ l5 ≤ 200 ∧ 0 ≤ ss ∧ ss ≤ 1099511627776 ∧ kk < 0) ∨ (l0 ≤ 200 ∧ l5 ≤ 200 ∧ 0 ≤ ss ∧ ss ≤ 1099511627776 ∧ 0 ≤ kk ∧ by_ % 1152921504606845789 = 0) := by omega
  have B0 := Lib.hid (Below.refl w.heap.size w)
  rcases h with h1 | ⟨h1, h2⟩ | ⟨h1, h2, h3⟩ | ⟨h1, h2, h3, h4⟩ | ⟨h1, h2, h3, h4, h5⟩ | ⟨h1, h2, h3, h4, h5, h6⟩
  · have q1 : decide (200 < (l0 : Int)) = true := decide_eq_true (by omega)
    go_enter Tryz.func9, Tryz.ntmps9
    go_wp2_with fail
    refine (live6 _).mono ?_; rintro _ w1 ⟨rfl, b⟩; have B1 := Lib.hid (below_on B0.out b); clear b
    go_wp2_with fail
    go_ret
    exact ⟨rfl, B1.out⟩
  · have q1 : decide (200 < (l0 : Int)) = false := decide_eq_false (by omega)
    have q2 : decide (200 < (l5 : Int)) = true := decide_eq_true (by omega)
    go_enter Tryz.func9, Tryz.ntmps9
    go_wp2_with fail
    refine (live6 _).mono ?_; rintro _ w1 ⟨rfl, b⟩; have B1 := Lib.hid (below_on B0.out b); clear b
    go_wp2_with fail
    go_ret
    exact ⟨rfl, B1.out⟩
  · have q1 : decide (200 < (l0 : Int)) = false := decide_eq_false (by omega)
    have q2 : decide (200 < (l5 : Int)) = false := decide_eq_false (by omega)
    have q3 : decide (ss < 0) = true := decide_eq_true (by omega)
    go_enter Tryz.func9, Tryz.ntmps9
    go_wp2_with fail
    refine (live6 _).mono ?_; rintro _ w1 ⟨rfl, b⟩; have B1 := Lib.hid (below_on B0.out b); clear b
    go_wp2_with fail
    go_ret
    exact ⟨rfl, B1.out⟩
  · have q1 : decide (200 < (l0 : Int)) = false := decide_eq_false (by omega)
    have q2 : decide (200 < (l5 : Int)) = false := decide_eq_false (by omega)
    have q3 : decide (ss < 0) = false := decide_eq_false (by omega)
    have q4 : decide (1099511627776 < ss) = true := decide_eq_true (by omega)
    go_enter Tryz.func9, Tryz.ntmps9
    go_wp2_with fail
    refine (live6 _).mono ?_; rintro _ w1 ⟨rfl, b⟩; have B1 := Lib.hid (below_on B0.out b); clear b
    go_wp2_with fail
    go_ret
    exact ⟨rfl, B1.out⟩
  · have q1 : decide (200 < (l0 : Int)) = false := decide_eq_false (by omega)
    have q2 : decide (200 < (l5 : Int)) = false := decide_eq_false (by omega)
    have q3 : decide (ss < 0) = false := decide_eq_false (by omega)
    have q4 : decide (1099511627776 < ss) = false := decide_eq_false (by omega)
    have q5 : decide (kk < 0) = true := decide_eq_true (by omega)
    go_enter Tryz.func9, Tryz.ntmps9
    go_wp2_with fail
    refine (live6 _).mono ?_; rintro _ w1 ⟨rfl, b⟩; have B1 := Lib.hid (below_on B0.out b); clear b
    go_wp2_with fail
    go_ret
    exact ⟨rfl, B1.out⟩
  · have q1 : decide (200 < (l0 : Int)) = false := decide_eq_false (by omega)
    have q2 : decide (200 < (l5 : Int)) = false := decide_eq_false (by omega)
    have q3 : decide (ss < 0) = false := decide_eq_false (by omega)
    have q4 : decide (1099511627776 < ss) = false := decide_eq_false (by omega)
    have q5 : decide (kk < 0) = false := decide_eq_false (by omega)
    have q6 : ((0 : Int) == 0) = true := rfl
    have by0 : 0 ≤ by_ := (inferInstance : IsU by_).1
    go_enter Tryz.func9, Tryz.ntmps9
    go_wp2_with fail
    refine (live6 _).mono ?_; rintro _ w1 ⟨rfl, b⟩; have B1 := Lib.hid (below_on B0.out b); clear b
    go_wp2_with fail
    go_ret
    exact ⟨rfl, B1.out⟩

theorem finds_walk6 (A0 : Option Addr) (c0 : Nat) (xs0 : List Int) (t n ss : Int) (A5 : Option Addr) (c5 : Nat) (xs5 : List Int) (kk by_ : Int) [IsU by_] (w : World) (hs0 : SI w w.heap.size .u8 A0 xs0) (hl0 : xs0.length ≤ c0) (hm0 : c0 ≤ maxLen) (hx0 : ∀ n ∈ xs0, (Lit.int .u8 n).wf = true) (hs5 : SI w w.heap.size .u8 A5 xs5) (hl5 : xs5.length ≤ c5) (hm5 : c5 ≤ maxLen) (hx5 : ∀ n ∈ xs5, (Lit.int .u8 n).wf = true) :
    Calls Tryz.prog 9 #[.slice A0 xs0.length c0, .int .i64 t, .int .i64 n, .int .i64 ss, .slice A5 xs5.length c5, .int .i64 kk, .int .u64 by_] w fun e w' => e = .returned (.bool true) ∧ Below w.heap.size w w' := by
  by_cases h : xs0.length ≤ 200 ∧ xs5.length ≤ 200 ∧ 0 ≤ ss ∧ ss ≤ 1099511627776 ∧ 0 ≤ kk ∧ by_ % 1152921504606845789 ≠ 0
  · obtain ⟨h1, h2, h3, h4, h5, h6⟩ := h
    by_cases hs : SplitI (ssecret xs0) t n
    · obtain ⟨t1, tn, n7, _⟩ := hs
      obtain ⟨T, rfl⟩ := Int.eq_ofNat_of_zero_le (show 0 ≤ t by omega)
      obtain ⟨N, rfl⟩ := Int.eq_ofNat_of_zero_le (show 0 ≤ n by omega)
      exact finds_ok T N (by omega) (by omega) (by omega) A0 c0 xs0 ss A5 c5 xs5 kk by_ (by_fix h1 hl0 hm0 hx0) (by_fix h2 hl5 hm5 hx5) h1 h2 h3 h4 h5 h6 w hs0 hs5
    · exact finds_bad t n A0 c0 xs0 ss A5 c5 xs5 kk by_ (by_fix h1 hl0 hm0 hx0) h1 h2 h3 h4 h5 h6 hs w hs0
  · exact finds_off t n A0 c0 xs0.length ss A5 c5 xs5.length kk by_ h w
end Go.Proofs.YtlannmedefjfhaaGreat

/- What those of a crew that are chosen tell, if they are too few. -/
import Derived.Test.YtlannmedefjfhaaGreatQuorumV
namespace Go.Proofs.YtlannmedefjfhaaGreat
open Go.ChangeShapes Go.WideShapes Go.ChangeAt Go.RowKit Gs
set_option linter.unusedVariables false

set_option maxRecDepth 100000 in
set_option maxHeartbeats 4000000 in
theorem signed_few (T N : Nat) (K who n : Int) [IsU K] (A : Option Addr) (c : Nat) (pol : List Int) (hp : ShFix c (spubs (csplit pol N))) (M : Option Addr) (cm : Nat) (ms : List Int) (hm : ByFix cm ms) (n7 : N ≤ 7) (hn0 : 0 ≤ n) (hn1 : n ≤ 1099511627776) (hcr : crewF (T : Int) (N : Int) K (spubs (csplit pol N)) = 0) (he : ((comsB who n ms (csplit pol N) N).length : Int) < (T : Int)) (E : Option Addr) (ce : Nat) (w : World) (hsp : SS w w.heap.size A (spubs (csplit pol N))) (hsm : SI w w.heap.size .u8 M ms) (hsl : SS w w.heap.size E (csplit pol N)) :
    Calls Tryz.prog 29 #[crewV (T : Int) (N : Int) K A N c, .slice E N ce, .int .i64 who, .int .i64 n, .slice M ms.length cm] w fun e w' => ∃ v1 v2, e = .returned (.tuple #[v1, v2, .agg #[.int .u64 0, .int .u64 0], .int .i64 50]) ∧ Below w.heap.size w w' := by
  have D0 := Lib.hid (((Below.refl w.heap.size w).alloc (Nat.le_refl _) (.cells #[.int .i64 (T : Int), .int .i64 (N : Int), .int .u64 K, .slice A N c] 26)).alloc (by simp) (.cells #[.int .u64 0, .int .u64 0] 45))
  have K1 := Lib.hid ((Blk.new w 26 #[.int .i64 (T : Int), .int .i64 (N : Int), .int .u64 K, .slice A N c]).alloc (.cells #[.int .u64 0, .int .u64 0] 45))
  have K2 := Lib.hid (Blk.new_at (w.alloc (.cells #[.int .i64 (T : Int), .int .i64 (N : Int), .int .u64 K, .slice A N c] 26)) 45 #[.int .u64 0, .int .u64 0] (g := w.heap.size + 1) (by simp))
  have HL := Lib.hid (csplit_length pol N)
  have HPL := Lib.hid (show (spubs (csplit pol N)).length = N by rw [spubs_length, csplit_length])
  have HSL := Lib.hid hsl
  have HSM := Lib.hid hsm
  have HSP := Lib.hid hsp
  have HLA := Lib.hid (csplit_good pol N).all
  have HMM := Lib.hid hm
  have HPP := Lib.hid hp
  obtain ⟨j0, hj, hy0, hy1, hy2⟩ := info_parts Tryz.info37
  have HJ := Lib.hid (And.intro hj (And.intro hy0 (And.intro hy1 hy2)))
  have HCR := Lib.hid hcr
  have HE := Lib.hid he
  have HSPT := Lib.hid (fun (x : Int × Int) (h : SignerOk x n) => few_spart (who := who) (ms := ms) hcr h he)
  have HCB := Lib.hid (fun (l' : List (Int × Int)) => few_comb (who := who) (ms := ms) hcr he l')
  clear hj hy0 hy1 hy2 hsl hsm hsp hm hp hcr he
  generalize spubs (csplit pol N) = ps at *
  generalize csplit pol N = l at *
  have P1 := Lib.hid (fun (x : Int × Int) (hu : IsU x.2) (h : SignerOk x n) W h' => Commit_ok x n h M cm ms HMM.out W h')
  have P2 := Lib.hid (fun D cd (hc : ShFix cd (comsB who n ms l N)) (x : Int × Int) (hu : IsU x.2) W h1 h2 h3 => Part_any (T : Int) (N : Int) K A c ps HPP.out M cm ms HMM.out D cd (comsB who n ms l N) hc x n W h1 h2 h3)
  have P3 := Lib.hid (fun D cd (hc : ShFix cd (comsB who n ms l N)) E ce l' (hl : ShFix ce l') W h1 h2 h3 h4 => Combine_any (T : Int) (N : Int) K A c ps HPP.out M cm ms HMM.out D cd (comsB who n ms l N) hc E ce l' hl W h1 h2 h3 h4)
  unfold crewV at P2 P3 ⊢
  rw [HPL.out] at P2 P3
  have HCL := Lib.hid (comsB_len who n ms l N)
  have HCU := Lib.hid (comsB_u who n ms l N)
  obtain ⟨CS, hCS⟩ : ∃ CS, comsB who n ms l N = CS := ⟨_, rfl⟩
  rw [hCS] at HE HSPT HCB P2 P3 HCL HCU
  have HCS := Lib.hid hCS
  clear hCS
  go_enter Tryz.func29, Tryz.ntmps29
  go_wp2_with fail
  refine wp_named (fun W => Blk W w.heap.size 26 #[.int .i64 (T : Int), .int .i64 (N : Int), .int .u64 K, .slice A N c] ∧ Blk W (w.heap.size + 1) 45 #[.int .u64 0, .int .u64 0] ∧ Below w.heap.size w W) ⟨K1.out, K2.out, D0.out⟩ ?_
  clear K1 K2 D0
  rintro W0 ⟨hk1, hk2, hD⟩
  have D0 := Lib.hid hD
  have K1 := Lib.hid hk1
  have K2 := Lib.hid hk2
  have hz1 := hk2.lt
  clear hk1 hk2 hD
  go_loopw [14, 16] (fun o i wr => ∃ k : Nat, k ≤ N ∧ i = .int .i64 k ∧ OwnS wr W0.heap.size o (comsB who n ms l k) ∧ Below W0.heap.size W0 wr) (fun _ i _ => N - (intOf i).toNat)
  case atStart => exact ⟨0, by omega, rfl, ⟨rfl, .inl ⟨rfl, rfl⟩⟩, Below.refl _ _⟩
  case round =>
    obtain ⟨k, hk, rfl, ho, hb⟩ := hrel
    have HO := Lib.hid ho
    have HB := Lib.hid hb
    have hz := hb.size
    clear ho hb
    by_cases hlt : k < N
    · have hkl : k < l.length := by rw [HL.out]; exact hlt
      obtain ⟨ad, rfl, had, c0, c1⟩ := ((HSL.out.on D0.out).below HB.out) k hkl
      have hal := HLA.out l[k] (List.getElem_mem hkl)
      have HYES := Lib.hid (fun h => comsB_yes (who := who) (n := n) (ms := ms) k hkl h)
      have HNO := Lib.hid (fun h => comsB_no (who := who) (n := n) (ms := ms) (l := l) k h)
      have HLen := Lib.hid (comsB_len who n ms l k)
      have hk7 : (k : Int) < 7 := by omega
      have HSO := Lib.hid (show SignerOk l[k] n by
        have h2 := pval_rb l[k].1 pol
        rw [← hal.2.2] at h2
        unfold Rb at h2
        exact ⟨hal.1, by omega, h2.2, hn0, hn1⟩)
      have HXU := Lib.hid (show IsU l[k].2 by
        have h2 := pval_rb l[k].1 pol
        rw [← hal.2.2] at h2
        exact rb_u h2)
      clear hal
      generalize l[k] = x at *
      have P := Lib.hid (P1.out x HXU.out HSO.out)
      generalize qcom x n ms = y at *
      have hb2 := bitAt_two who k
      by_cases hbt : bitAt who k = 1
      · have hq : (bits .and .i64 (who / 2 ^ k) 1 == 1) = true := by
          have h : bits .and .i64 (who / 2 ^ k) 1 = 1 := hbt
          rw [h]; rfl
        have HY := Lib.hid (HYES.out hbt)
        clear HYES HNO hbt hb2
        go_wp2_with fail
        refine (P.out _ ((HSM.out.on D0.out).on HB.out)).mono ?_; rintro _ w5 ⟨rfl, b⟩
        have B5 := Lib.hid (HB.out.trans (b.mono hz))
        have HO5 := Lib.hid (own_below HO.out b)
        have hz5 := b.size
        obtain ⟨ck, hck⟩ : ∃ ck, comsB who n ms l k = ck := ⟨_, rfl⟩
        rw [hck] at HY HO5 HLen HO
        have HLn := HLen.out
        clear b c0 c1 hck
        go_wp2_with (at_builtin; refine wpList_append_any _ rfl _ _ 24 rfl W0.heap.size 37 j0 (.agg #[.int .i64 0, .int .u64 0]) 2 16 Tryz.underlying24 HJ.out.1 HJ.out.2.1 HJ.out.2.2.1 HJ.out.2.2.2 rfl (by decide) _ _ _ rfl (own_below HO5.out (((Below.refl _ _).alloc (Nat.le_refl _) _).alloc (by simp) _)) _ _ 1 _ (cells2 [y]) rfl (reads_new (Blk.new_at (w5.alloc (.cells #[.int .i64 y.1, .int .u64 y.2] 37)) _ _ (by simp)) 1 rfl) (cells2_one _) (by unfold maxLen; omega) (by omega) (by simp; omega) ?_; intro v' w6 hown' hgrow _; have HO7 := Lib.hid hown'; have HG := Lib.hid hgrow; clear hown' hgrow)
        go_roundw
        case rel =>
          refine ⟨k + 1, by omega, by go_num, ?_, ?_⟩
          · have h := HO7.out
            rw [← cells2_append] at h
            rw [HY.out]
            exact own_s h (by simp) rfl
          · refine B5.out.trans ((((Below.refl W0.heap.size w5).alloc (by omega) _).alloc (by simp; omega) _).grown HG.out (by simp; omega) (fun g e => ?_))
            exact own_ge HO.out g e
        case measure => simp [intOf]; omega
      · have hq : (bits .and .i64 (who / 2 ^ k) 1 == 1) = false := by
          have h : bits .and .i64 (who / 2 ^ k) 1 = 0 := by rcases hb2 with h | h; exact h; exact absurd h hbt
          rw [h]; rfl
        have HY := Lib.hid (HNO.out hbt)
        clear HYES HNO hbt hb2
        go_wp2_with fail
        refine (P.out _ ((HSM.out.on D0.out).on HB.out)).mono ?_; rintro _ w5 ⟨rfl, b⟩
        have B5 := Lib.hid (HB.out.trans (b.mono hz))
        have HO5 := Lib.hid (own_below HO.out b)
        have hz5 := b.size
        have HO6 := Lib.hid (own_below HO5.out ((Below.refl w5.heap.size w5).alloc (Nat.le_refl _) (.cells #[.int .i64 y.1, .int .u64 y.2] 37)))
        clear b c0 c1
        go_wp2_with fail
        go_roundw
        case rel => exact ⟨k + 1, by omega, by go_num, by rw [HY.out]; exact HO6.out, B5.out.alloc (by omega) _⟩
        case measure => simp [intOf]; omega
    · obtain rfl : N = k := by omega
      rw [HCS.out] at HO
      obtain ⟨D, cd, rfl, q1, q2, hs1, hgD⟩ := own_sliceS HO.out
      have HGD := Lib.hid (fun ad (e : D = some ad) => (show ad.block ≠ w.heap.size + 1 by have := hgD ad e; omega))
      have HQD := Lib.hid (And.intro q1 q2)
      clear hgD
      have HCX := Lib.hid (show ShFix cd CS from ⟨by have := HCL.out; omega, q1, q2, HCU.out⟩)
      have HSD := Lib.hid hs1
      clear q1 q2 hs1
      have K1r := Lib.hid (K1.out.below HB.out (by omega))
      have K2r := Lib.hid (K2.out.below HB.out (by omega))
      have HSPr := Lib.hid ((HSP.out.on D0.out).on HB.out)
      have HSMr := Lib.hid ((HSM.out.on D0.out).on HB.out)
      have HSLr := Lib.hid ((HSL.out.on D0.out).on HB.out)
      have P2' := Lib.hid (fun (x : Int × Int) (hu : IsU x.2) W h1 h2 h3 => P2.out D cd HCX.out x hu W h1 h2 h3)
      clear P1 P2 K1 K2
      go_wp2_with fail
      refine wp_named (fun W => Blk W w.heap.size 26 #[.int .i64 (T : Int), .int .i64 (N : Int), .int .u64 K, .slice A N c] ∧ Blk W (w.heap.size + 1) 45 #[.int .u64 0, .int .u64 0] ∧ Below w.heap.size w W ∧ SS W W.heap.size D CS) ⟨K1r.out, K2r.out, D0.out.trans (HB.out.mono (by omega)), HSD.out⟩ ?_
      clear K1r K2r HSD HSPr HSMr HSLr HO HB hz
      rintro W1 ⟨hk1, hk2, hD1, hs1⟩
      have D1 := Lib.hid hD1
      have K1r := Lib.hid hk1
      have K2r := Lib.hid hk2
      have HSD := Lib.hid hs1
      have HSPr := Lib.hid (HSP.out.on hD1)
      have HSMr := Lib.hid (HSM.out.on hD1)
      have HSLr := Lib.hid (HSL.out.on hD1)
      have hz2 := hk2.lt
      clear hk1 hk2 hD1 hs1
      go_loopw [15, 19] (fun o i wr => ∃ k : Nat, k ≤ N ∧ i = .int .i64 k ∧ o = .slice none 0 0 ∧ (∀ j, j < k → bitAt who j ≠ 1) ∧ Below W1.heap.size W1 wr) (fun _ i _ => N - (intOf i).toNat)
      case atStart => exact ⟨0, by omega, rfl, rfl, fun j g => by omega, Below.refl _ _⟩
      case round =>
        obtain ⟨k, hk, rfl, rfl, h0, hb⟩ := hrel
        have HO := Lib.hid h0
        have HBq := Lib.hid hb
        have hzq := hb.size
        have kq := K1r.out.below hb (by have := K1r.out.lt; omega)
        have d0 := kq.cell 0
        have d1 := kq.cell 1
        have d2 := kq.cell 2
        have d3 := kq.cell 3
        have hwq := kq.lt
        clear hb kq h0
        by_cases hlt : k < N
        · have hkl : k < l.length := by rw [HL.out]; exact hlt
          have hal := HLA.out l[k] (List.getElem_mem hkl)
          have HSO := Lib.hid (show SignerOk l[k] n by
            have h2 := pval_rb l[k].1 pol
            rw [← hal.2.2] at h2
            unfold Rb at h2
            exact ⟨hal.1, by omega, h2.2, hn0, hn1⟩)
          have HXU := Lib.hid (show IsU l[k].2 by
            have h2 := pval_rb l[k].1 pol
            rw [← hal.2.2] at h2
            exact rb_u h2)
          clear hal
          have hk7 : (k : Int) < 7 := by omega
          have hb2 := bitAt_two who k
          by_cases hbt : bitAt who k = 1
          · have hq : (bits .and .i64 (who / 2 ^ k) 1 == 0) = false := by
              have h : bits .and .i64 (who / 2 ^ k) 1 = 1 := hbt
              rw [h]; rfl
            obtain ⟨ad, rfl, had, c0, c1⟩ := ((HSLr.out).below HBq.out) k hkl
            have hbk : (ad.add (k * 2)).block < wr.heap.size := by rw [block_of_add]; omega
            have HPT := Lib.hid (HSPT.out l[k] HSO.out)
            have P2x := Lib.hid (P2'.out l[k] HXU.out)
            rw [HPT.out.1, HPT.out.2] at P2x
            generalize l[k] = x at *
            clear HPT HSPT hbt hb2 P2' HSO HXU
            have hW : Below wr.heap.size wr wr.drew := (Below.refl wr.heap.size wr).drew
            go_wp2_with fail
            go_region_held_law (fun w' => w'.cell? ⟨w.heap.size, 0, none⟩ = some (.int .i64 (T : Int)) ∧ w'.cell? ⟨w.heap.size, 1, none⟩ = some (.int .i64 (N : Int)) ∧ w'.cell? ⟨w.heap.size, 2, none⟩ = some (.int .u64 K) ∧ w'.cell? ⟨w.heap.size, 3, none⟩ = some (.slice A N c) ∧ w'.cell? (ad.add (k * 2)) = some (.int .i64 x.1) ∧ w'.cell? ⟨(ad.add (k * 2)).block, (ad.add (k * 2)).off + 1, none⟩ = some (.int .u64 x.2)) (first | exact ⟨by assumption, by assumption, by assumption, by assumption, by assumption, by assumption⟩ | exact ⟨cell_setA (by first | omega | (simp only []; omega)) (by assumption), cell_setA (by first | omega | (simp only []; omega)) (by assumption), cell_setA (by first | omega | (simp only []; omega)) (by assumption), cell_setA (by first | omega | (simp only []; omega)) (by assumption), cell_setA (by first | omega | (simp only []; omega)) (by assumption), cell_setA (by first | omega | (simp only []; omega)) (by assumption)⟩ | go_keep)
              (first
                | (go_at_call 22; refine (P2x.out _ (HSPr.out.on (below_on HBq.out (by first | exact hW | exact hW.alloc hW.size _))) (HSMr.out.on (below_on HBq.out (by first | exact hW | exact hW.alloc hW.size _))) (HSD.out.on (below_on HBq.out (by first | exact hW | exact hW.alloc hW.size _)))).mono ?_; rintro _ w5 ⟨rfl, bb⟩; (first | (have GB := Lib.hid (show Blk w5 wr.heap.size 37 #[.int .i64 0, .int .u64 0] from (Blk.new_at wr.drew 37 #[.int .i64 0, .int .u64 0] rfl).below bb (by simp <;> omega))) | skip); have hW := below_on (by first | exact hW | exact hW.alloc hW.size _) bb; have e0 := (hW.cell (p := ⟨w.heap.size, 0, none⟩) hwq).trans d0; have e1 := (hW.cell (p := ⟨w.heap.size, 1, none⟩) hwq).trans d1; have e2 := (hW.cell (p := ⟨w.heap.size, 2, none⟩) hwq).trans d2; have e3 := (hW.cell (p := ⟨w.heap.size, 3, none⟩) hwq).trans d3; have a0 := (hW.cell (p := ad.add (k * 2)) hbk).trans c0; have a1 := (hW.cell (p := ⟨(ad.add (k * 2)).block, (ad.add (k * 2)).off + 1, none⟩) hbk).trans c1; (try (obtain ⟨⟨g0, g1⟩, f0, f1⟩ := GB.out.facts2))))
            all_goals
              clear e0 e1 e2 e3 a0 a1 c0 c1 d0 d1 d2 d3 P2x
              first
                | (have hg0 := GB.out.set2 (x' := .int .i64 0) (y' := .int .u64 0); have hVB := below_setR (below_setR hW (Nat.le_refl _) (.int .i64 0) (o := 0)) (Nat.le_refl _) (.int .u64 0) (o := 1); have hG := Nat.le_refl wr.heap.size; clear GB g0 g1 f0 f1; generalize (w5.setCell ⟨wr.heap.size, 0, none⟩ (.int .i64 0)).setCell ⟨wr.heap.size, 1, none⟩ (.int .u64 0) = V at *)
                | (have hg0 := Blk.new w5 37 #[.int .i64 0, .int .u64 0]; have hVB := hW.alloc hW.size (.cells #[.int .i64 0, .int .u64 0] 37); have hG : wr.heap.size ≤ w5.heap.size := hW.size; generalize w5.alloc (.cells #[.int .i64 0, .int .u64 0] 37) = V at *; generalize w5.heap.size = gg at *)
              have gc0 := hg0.cell 0
              have gc1 := hg0.cell 1
              have HVB := Lib.hid hVB
              have hVz := hVB.size
              have hgl := hg0.lt
              clear hW hg0 hVB
              have K2v := Lib.hid ((K2r.out.below HBq.out hz2).below HVB.out (by omega))
              obtain ⟨⟨g0, g1⟩, f0, f1⟩ := K2v.out.facts2
              go_wp2_with fail
              have h := (K2v.out.set2 (x' := .int .u64 0) (y' := .int .u64 0)).facts2.1
              refine bodyPost_ret (v := .tuple #[.slice D CS.length cd, .slice none 0 0, .agg #[.int .u64 0, .int .u64 0], .int .i64 50]) (by simp [results, Tryz.results29, go_sem, h.1, h.2]) rfl ⟨_, _, rfl, ?_⟩
              exact below_setR (below_setR (below_on D1.out (below_on HBq.out HVB.out)) (by omega) _) (by omega) _
          · have hq : (bits .and .i64 (who / 2 ^ k) 1 == 0) = true := by
              have h : bits .and .i64 (who / 2 ^ k) 1 = 0 := by rcases hb2 with h | h; exact h; exact absurd h hbt
              rw [h]; rfl
            have HBT := Lib.hid hbt
            clear hbt hb2 d0 d1 d2 d3
            go_wp2_with fail
            go_roundw
            case rel =>
              refine ⟨k + 1, by omega, by go_num, rfl, fun j g => ?_, HBq.out⟩
              by_cases e : j = k
              · subst e; exact HBT.out
              · exact HO.out j (by omega)
            case measure => simp [intOf]; omega
        · obtain rfl : N = k := by omega
          have P3x := Lib.hid (P3.out D cd HCX.out none 0 [] ⟨by simp, by simp, by unfold maxLen; omega, fun p hp => absurd hp (by simp)⟩)
          rw [(HCB.out []).1, (HCB.out []).2] at P3x
          have HSQ := Lib.hid (fun W => (show SS W W.heap.size none ([] : List (Int × Int)) from fun j hj => absurd hj (by simp)))
          clear P2' HSPT
          go_wp2_with fail
          refine (P3x.out _ (HSPr.out.on HBq.out) (HSMr.out.on HBq.out) (HSD.out.on HBq.out) (HSQ.out _)).mono ?_; rintro _ w7 ⟨rfl, b⟩
          have B7 := Lib.hid (below_on HBq.out b)
          have K2w := Lib.hid ((K2r.out.below HBq.out hz2).below b (by omega))
          have hz7 := b.size
          clear b d0 d1 d2 d3
          go_wp2_with fail
          have K2x := Lib.hid (K2w.out.alloc (.cells #[.int .u64 0, .int .u64 0] 45))
          obtain ⟨⟨g0, g1⟩, f0, f1⟩ := K2x.out.facts2
          have KS := (Blk.new w7 45 #[.int .u64 0, .int .u64 0])
          have s0 := KS.cell 0
          have s1 := KS.cell 1
          have hlw : w.heap.size + 1 < w7.heap.size := by omega
          refine wp_named (fun V => (V.cell? ⟨w7.heap.size, 0, none⟩ = some (.int .u64 0) ∧ V.cell? ⟨w7.heap.size, 1, none⟩ = some (.int .u64 0)) ∧ Blk V (w.heap.size + 1) 45 #[.int .u64 0, .int .u64 0] ∧ Below w7.heap.size w7 V) ⟨⟨s0, s1⟩, K2x.out, (Below.refl w7.heap.size w7).alloc (Nat.le_refl _) _⟩ ?_
          clear s0 s1 K2x K2w KS g0 g1 f0 f1
          rintro V ⟨⟨s0, s1⟩, hkv, hV⟩
          have KV := Lib.hid hkv
          obtain ⟨⟨g0, g1⟩, f0, f1⟩ := hkv.facts2
          have BV := Lib.hid (below_on D1.out (below_on B7.out hV))
          clear hkv hV
          go_region_held_law (fun w' => w'.cell? ⟨w7.heap.size, 0, none⟩ = some (.int .u64 0) ∧ w'.cell? ⟨w7.heap.size, 1, none⟩ = some (.int .u64 0)) (first | exact ⟨by assumption, by assumption⟩ | exact ⟨cell_setA (by simp only []; omega) (by assumption), cell_setA (by simp only []; omega) (by assumption)⟩ | go_keep) (fail)
          all_goals
            go_wp2_with fail
            have h := (KV.out.set2 (x' := .int .u64 0) (y' := .int .u64 0)).facts2.1
            refine bodyPost_ret (v := .tuple #[.slice D CS.length cd, .slice none 0 0, .agg #[.int .u64 0, .int .u64 0], .int .i64 50]) (by simp [results, Tryz.results29, go_sem, h.1, h.2]) rfl ⟨_, _, rfl, ?_⟩
            first
              | exact below_setR (below_setR BV.out (by omega) _) (by omega) _
              | exact (below_setR (below_setR BV.out (by omega) _) (by omega) _).drew
end Go.Proofs.YtlannmedefjfhaaGreat

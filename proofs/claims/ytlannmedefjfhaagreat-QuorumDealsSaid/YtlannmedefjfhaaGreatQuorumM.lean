/- What package quorum combines. -/
import Derived.Test.YtlannmedefjfhaaGreatQuorumL
namespace Go.Proofs.YtlannmedefjfhaaGreat
open Go.ChangeShapes Go.WideShapes Go.ChangeAt Go.RowKit Gs
set_option linter.unusedVariables false

/-- What is combined. -/
noncomputable def combS (T N K : Int) (ps : List (Int × Int)) (ms : List Int) (cs l : List (Int × Int)) : Int × Int := if combF T N K ps ms cs l = 0 then (chalF K ms cs, rsum (l.map Prod.snd)) else (0, 0)
theorem rsum_take (l : List (Int × Int)) (k : Nat) (h : k < l.length) : rsum ((l.map Prod.snd).take (k + 1)) = radd (rsum ((l.map Prod.snd).take k)) l[k].2 := by
  unfold rsum
  rw [List.take_succ_eq_append_getElem (by simpa using h), List.foldl_append]
  simp

set_option maxRecDepth 100000 in
set_option maxHeartbeats 8000000 in
theorem Combine_any (T N K : Int) [IsU K] (A : Option Addr) (c : Nat) (ps : List (Int × Int)) (hp : ShFix c ps) (M : Option Addr) (cm : Nat) (ms : List Int) (hm : ByFix cm ms) (D : Option Addr) (cd : Nat) (cs : List (Int × Int)) (hc : ShFix cd cs) (E : Option Addr) (ce : Nat) (l : List (Int × Int)) (hl : ShFix ce l) (w : World) (hsp : SS w w.heap.size A ps) (hsm : SI w w.heap.size .u8 M ms) (hsc : SS w w.heap.size D cs) (hsl : SS w w.heap.size E l) :
    Calls Tryz.prog 26 #[crewV T N K A ps.length c, .slice M ms.length cm, .slice D cs.length cd, .slice E l.length ce] w fun e w' => e = .returned (.tuple #[.agg #[.int .u64 (combS T N K ps ms cs l).1, .int .u64 (combS T N K ps ms cs l).2], .int .i64 (combF T N K ps ms cs l)]) ∧ Below w.heap.size w w' := by
  have D0 := Lib.hid ((((Below.refl w.heap.size w).alloc (Nat.le_refl _) (.cells #[.int .i64 T, .int .i64 N, .int .u64 K, .slice A ps.length c] 26)).alloc (by simp) (.cells #[.int .u64 0, .int .u64 0] 45)).alloc (by simp; omega) (.cells #[.int .i64 T, .int .i64 N, .int .u64 K, .slice A ps.length c, .slice M ms.length cm, .slice D cs.length cd] 77))
  have K2 := Lib.hid ((Blk.new_at (w.alloc (.cells #[.int .i64 T, .int .i64 N, .int .u64 K, .slice A ps.length c] 26)) 45 #[.int .u64 0, .int .u64 0] (g := w.heap.size + 1) (by simp)).alloc (.cells #[.int .i64 T, .int .i64 N, .int .u64 K, .slice A ps.length c, .slice M ms.length cm, .slice D cs.length cd] 77))
  have K3 := Lib.hid (Blk.new_at ((w.alloc (.cells #[.int .i64 T, .int .i64 N, .int .u64 K, .slice A ps.length c] 26)).alloc (.cells #[.int .u64 0, .int .u64 0] 45)) 77 #[.int .i64 T, .int .i64 N, .int .u64 K, .slice A ps.length c, .slice M ms.length cm, .slice D cs.length cd] (g := w.heap.size + 2) (by simp))
  have HSP := Lib.hid (hsp.on D0.out)
  have HSM := Lib.hid (hsm.on D0.out)
  have HSC := Lib.hid (hsc.on D0.out)
  have HSL := Lib.hid (hsl.on D0.out)
  have P1 := Lib.hid (fun A4 c4 W h1 h2 h3 h4 => head_first T N K A c ps hp M cm ms hm D cd cs hc A4 c4 W h1 h2 h3 h4)
  have P2 := Lib.hid (fun W h1 h2 => chal_any T N K A ps.length c M cm ms D cd cs hc hm W h1 h2)
  have P3 := Lib.hid (fun hcr hco W h1 h2 h3 => wrong_any T N K A c ps hp M ms.length cm D cd cs hc (chalF K ms cs) hcr hco E l.length ce l rfl hl.len hl.u W h1 h2 h3)
  have P4 := Lib.hid (fun W h => each_ids E l.length ce l rfl hl.len W h)
  have P5 := Lib.hid (fun W h => each_ids D cs.length cd cs rfl hc.len W h)
  have hJl : (l.map Prod.fst).length ≤ 1048576 := by have := hl.len; simpa using this
  have P6 := Lib.hid (fun A A' c c' W h h' => equal_int A A' (l.map Prod.fst).length (cs.map Prod.fst).length c c' (l.map Prod.fst) (cs.map Prod.fst) rfl rfl hJl W h h')
  have HU := Lib.hid hl.u
  have hll := hl.len
  unfold crewV
  unfold roundV at P1 P2 P3
  have HC0 := Lib.hid (fun (h : headF T N K ps cs ≠ 0) => (show combF T N K ps ms cs l = headF T N K ps cs from if_neg h))
  have HC1 := Lib.hid (fun (h : headF T N K ps cs = 0) (g : l.map Prod.fst ≠ cs.map Prod.fst) => (show combF T N K ps ms cs l = 1 by unfold combF; rw [if_pos h, if_neg g]))
  have HC2 := Lib.hid (fun (h : headF T N K ps cs = 0) (g : l.map Prod.fst = cs.map Prod.fst) => (show combF T N K ps ms cs l = wrongF (chalF K ms cs) ps cs l by unfold combF; rw [if_pos h, if_pos g]))
  have HS1 := Lib.hid (fun (h : combF T N K ps ms cs l ≠ 0) => (show combS T N K ps ms cs l = (0, 0) from if_neg h))
  have HS2 := Lib.hid (fun (h : combF T N K ps ms cs l = 0) => (show combS T N K ps ms cs l = (chalF K ms cs, rsum (l.map Prod.snd)) from if_pos h))
  have HZ := Lib.hid (fun (h : headF T N K ps cs = 0) => headF_zero h)
  clear hsp hsm hsc hsl hp hm hc hl hJl
  generalize headF T N K ps cs = hd at *
  generalize wrongF (chalF K ms cs) ps cs l = wf at *
  generalize combF T N K ps ms cs l = cf at *
  generalize combS T N K ps ms cs l = sg at *
  generalize chalF K ms cs = ch at *
  generalize l.map Prod.fst = J1 at *
  generalize cs.map Prod.fst = J2 at *
  go_enter Tryz.func26, Tryz.ntmps26
  go_wp2_with fail
  have B2 := Lib.hid (fun cs' => (Below.refl (((w.alloc (.cells #[.int .i64 T, .int .i64 N, .int .u64 K, .slice A ps.length c] 26)).alloc (.cells #[.int .u64 0, .int .u64 0] 45)).alloc (.cells #[.int .i64 T, .int .i64 N, .int .u64 K, .slice A ps.length c, .slice M ms.length cm, .slice D cs.length cd] 77)).heap.size _).alloc (Nat.le_refl _) (.cells cs' 68))
  refine (P1.out _ _ _ (HSP.out.on (B2.out _)) (HSM.out.on (B2.out _)) (HSC.out.on (B2.out _)) (chks_at (Blk.new_at _ _ _ (by simp)) _ rfl)).mono ?_; rintro _ w1 ⟨rfl, b⟩
  have b' := below_on (B2.out _) b
  have B1 := Lib.hid (below_on D0.out b')
  have HSP1 := Lib.hid (HSP.out.on b')
  have HSM1 := Lib.hid (HSM.out.on b')
  have HSC1 := Lib.hid (HSC.out.on b')
  have HSL1 := Lib.hid (HSL.out.on b')
  have K21 := Lib.hid (K2.out.below b' K2.out.lt)
  have K31 := Lib.hid (K3.out.below b' K3.out.lt)
  clear b b' K2 K3 HSP HSM HSC HSL D0 B2
  by_cases hh : hd = 0
  · subst hh
    have hz := HZ.out rfl
    have P3' := Lib.hid (P3.out hz.1.1 hz.2.1)
    have HC1' := Lib.hid (HC1.out rfl)
    have HC2' := Lib.hid (HC2.out rfl)
    clear HC1 HC2
    clear hz HZ P3 P1 HC0
    go_wp2_with fail
    refine (P4.out _ HSL1.out).mono ?_; rintro _ w2 ⟨v2, rfl, ho, b⟩
    obtain ⟨A2, c2, rfl, q1, q2, hs2, _⟩ := own_sliceI ho
    have HI2 := Lib.hid hs2
    have B2 := Lib.hid b
    clear ho hs2 b q1 q2
    go_wp2_with fail
    refine (P5.out _ (HSC1.out.on B2.out)).mono ?_; rintro _ w3 ⟨v3, rfl, ho, b⟩
    obtain ⟨A3, c3, rfl, q1, q2, hs3, _⟩ := own_sliceI ho
    have HI3 := Lib.hid hs3
    have HI2' := Lib.hid (HI2.out.on b)
    have B3 := Lib.hid (below_on B2.out b)
    clear ho hs3 b q1 q2 HI2
    go_wp2_with fail
    refine (P6.out A2 A3 c2 c3 _ HI2'.out HI3.out).mono ?_; rintro _ w4 ⟨rfl, b⟩
    have B4 := Lib.hid (below_on B3.out b)
    have K24 := Lib.hid (K21.out.below B4.out K21.out.lt)
    clear b HI2' HI3 P4 P5 P6
    by_cases hi : J1 = J2
    · have hdq : decide (J1 = J2) = true := decide_eq_true hi
      have HCF := Lib.hid (HC2'.out hi)
      clear HC1' HC2' hi
      rw [hdq]
      clear hdq
      have k34 := K31.out.below B4.out K31.out.lt
      have b0 := k34.cell 0
      have b1 := k34.cell 1
      have b2 := k34.cell 2
      have b3 := k34.cell 3
      have b4 := k34.cell 4
      have b5 := k34.cell 5
      go_wp2_with fail
      refine (P2.out _ (HSM1.out.on B4.out) (HSC1.out.on B4.out)).mono ?_; rintro _ w5 ⟨rfl, b⟩
      have K35 := Lib.hid (k34.below b k34.lt)
      have B5 := Lib.hid (below_on B4.out b)
      have K25 := Lib.hid (K24.out.below b K24.out.lt)
      clear b k34 b0 b1 b2 b3 b4 b5 K24 K31
      have b0 := K35.out.cell 0
      have b1 := K35.out.cell 1
      have b2 := K35.out.cell 2
      have b3 := K35.out.cell 3
      have b4 := K35.out.cell 4
      have b5 := K35.out.cell 5
      go_wp2_with fail
      refine (P3'.out _ (HSC1.out.on B5.out) (HSP1.out.on B5.out) (HSL1.out.on B5.out)).mono ?_; rintro _ w6 ⟨rfl, b⟩
      have B6 := Lib.hid (below_on B5.out b)
      have K26 := Lib.hid (K25.out.below b K25.out.lt)
      clear b b0 b1 b2 b3 b4 b5 K25 K35
      by_cases hw : wf = 0
      · subst hw
        have HSG := Lib.hid (HS2.out HCF.out)
        clear HS1 HS2
        go_wp2_with fail
        have hz6 := K26.out.lt
        go_loopw [14, 52] (fun o i wr => ∃ k : Nat, k ≤ l.length ∧ i = .int .i64 k ∧ o = .int .u64 (rsum ((l.map Prod.snd).take k)) ∧ Below w6.heap.size w6 wr) (fun _ i _ => l.length - (intOf i).toNat)
        case atStart => exact ⟨0, by omega, rfl, rfl, Below.refl _ _⟩
        case round =>
          obtain ⟨k, hk, rfl, rfl, hb⟩ := hrel
          have HB := Lib.hid hb
          have hz := hb.size
          clear hb
          by_cases hlt : k < l.length
          · obtain ⟨ad, rfl, had, c0, c1⟩ := ((HSL1.out.on B6.out).below HB.out) k hlt
            have hx := HU.out l[k] (List.getElem_mem hlt)
            haveI : IsU l[k].2 := ⟨hx.1, hx.2⟩
            have P := Lib.hid (AddR_r (rsum ((l.map Prod.snd).take k)) l[k].2)
            have HT := Lib.hid (rsum_take l k hlt)
            have HB2 := Lib.hid (HB.out.alloc hz (.cells #[.int .i64 l[k].1, .int .u64 l[k].2] 37))
            clear hx
            generalize l[k].1 = y1 at *
            generalize l[k].2 = y2 at *
            go_wp2_with fail
            refine (P.out _).mono ?_; rintro _ w8 ⟨rfl, rfl⟩
            go_wp2_with fail
            go_roundw
            case rel => exact ⟨k + 1, by omega, by go_num, by rw [HT.out], HB2.out⟩
            case measure => simp [intOf]; omega
          · obtain rfl : k = l.length := by omega
            have HA := Lib.hid (show (l.map Prod.snd).take l.length = l.map Prod.snd from List.take_of_length_le (by simp))
            rw [HA.out]
            have K27 := Lib.hid (K26.out.below HB.out K26.out.lt)
            obtain ⟨⟨g0, g1⟩, f0, f1⟩ := K27.out.facts2
            have BX := Lib.hid (B1.out.trans (((B6.out.trans (HB.out.mono B6.out.size))).mono B1.out.size))
            go_wp2_with fail
            have h := (K27.out.set2 (x' := .int .u64 ch) (y' := .int .u64 (rsum (l.map Prod.snd)))).facts2.1
            rw [HSG.out, HCF.out]
            refine bodyPost_ret (v := .tuple #[.agg #[.int .u64 ch, .int .u64 (rsum (l.map Prod.snd))], .int .i64 0]) (by simp [results, Tryz.results26, go_sem, h.1, h.2]) rfl ⟨rfl, ?_⟩
            exact below_setR (below_setR BX.out (by omega) _) (by omega) _
      · have hq : (wf != 0) = true := by simpa using hw
        have HSG := Lib.hid (HS1.out (fun h => hw (HCF.out.symm.trans h)))
        clear HS1 HS2 hw
        obtain ⟨⟨g0, g1⟩, f0, f1⟩ := K26.out.facts2
        have BX := Lib.hid (B1.out.trans (B6.out.mono B1.out.size))
        go_wp2_with fail
        have h := (K26.out.set2 (x' := .int .u64 0) (y' := .int .u64 0)).facts2.1
        rw [HSG.out, HCF.out]
        refine bodyPost_ret (v := .tuple #[.agg #[.int .u64 0, .int .u64 0], .int .i64 wf]) (by simp [results, Tryz.results26, go_sem, h.1, h.2]) rfl ⟨rfl, ?_⟩
        exact below_setR (below_setR BX.out (by omega) _) (by omega) _
    · have hdq : decide (J1 = J2) = false := decide_eq_false hi
      have HCF := Lib.hid (HC1'.out hi)
      have HSG := Lib.hid (HS1.out (by rw [HCF.out]; omega))
      clear HC1' HC2' hi HS1 HS2
      rw [hdq]
      clear hdq
      obtain ⟨⟨g0, g1⟩, f0, f1⟩ := K24.out.facts2
      have BX := Lib.hid (B1.out.trans (B4.out.mono B1.out.size))
      go_wp2_with fail
      have h := (K24.out.set2 (x' := .int .u64 0) (y' := .int .u64 0)).facts2.1
      rw [HSG.out, HCF.out]
      refine bodyPost_ret (v := .tuple #[.agg #[.int .u64 0, .int .u64 0], .int .i64 1]) (by simp [results, Tryz.results26, go_sem, h.1, h.2]) rfl ⟨rfl, ?_⟩
      exact below_setR (below_setR BX.out (by omega) _) (by omega) _
  · have hq : (hd != 0) = true := by simpa using hh
    have HCF := Lib.hid (HC0.out hh)
    have HSG := Lib.hid (HS1.out (by rw [HCF.out]; exact hh))
    clear hh HZ HC0 HC1 HC2 HS1 HS2
    obtain ⟨⟨g0, g1⟩, f0, f1⟩ := K21.out.facts2
    go_wp2_with fail
    have h := (K21.out.set2 (x' := .int .u64 0) (y' := .int .u64 0)).facts2.1
    rw [HSG.out, HCF.out]
    refine bodyPost_ret (v := .tuple #[.agg #[.int .u64 0, .int .u64 0], .int .i64 hd]) (by simp [results, Tryz.results26, go_sem, h.1, h.2]) rfl ⟨rfl, ?_⟩
    exact below_setR (below_setR B1.out (by omega) _) (by omega) _
end Go.Proofs.YtlannmedefjfhaaGreat

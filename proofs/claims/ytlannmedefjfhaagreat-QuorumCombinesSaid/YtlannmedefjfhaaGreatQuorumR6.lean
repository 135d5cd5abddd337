/- The document's own answers on a part: CheckPart. -/
import Derived.Test.YtlannmedefjfhaaGreatQuorumR3
import Derived.Test.YtlannmedefjfhaaGreatQuorumI
import Derived.Test.YtlannmedefjfhaaGreatQuorumLib
namespace Go.Proofs.YtlannmedefjfhaaGreat
open Go.ChangeShapes Go.WideShapes Go.ChangeAt Go.RowKit Gs
set_option linter.unusedVariables false

theorem headF_crew {T N K : Int} {ps cs : List (Int × Int)} (h : crewF T N K ps ≠ 0) : headF T N K ps cs = crewF T N K ps := if_neg h
theorem headF_may {T N K : Int} {ps cs : List (Int × Int)} (h : crewF T N K ps = 0) : headF T N K ps cs = mayF T N cs := if_pos h

set_option maxRecDepth 100000 in
set_option maxHeartbeats 8000000 in
theorem CheckPart6_any (T N K : Int) [IsU K] (A : Option Addr) (c : Nat) (ps : List (Int × Int)) (hp : ShFix c ps) (M : Option Addr) (cm : Nat) (ms : List Int) (hm : ByFix cm ms) (D : Option Addr) (cd : Nat) (cs : List (Int × Int)) (hc : ShFix cd cs) (p : Int × Int) [IsU p.2] (w : World) (hsp : SS w w.heap.size A ps) (hsm : SI w w.heap.size .u8 M ms) (hsc : SS w w.heap.size D cs) :
    Calls Tryz.prog 25 #[crewV T N K A ps.length c, .slice M ms.length cm, .slice D cs.length cd, .agg #[.int .i64 p.1, .int .u64 p.2]] w fun e w' => e = .returned (.int .i64 (cpartF T N K ps ms cs p)) ∧ Below w.heap.size w w' := by
  obtain ⟨p1, x0⟩ := p
  haveI : IsU x0 := (inferInstance : IsU ((p1, x0) : Int × Int).2)
  have x00 : 0 ≤ x0 := (inferInstance : IsU x0).1
  simp only []
  have D0 := Lib.hid (((Below.refl w.heap.size w).alloc (Nat.le_refl _) (.cells #[.int .i64 T, .int .i64 N, .int .u64 K, .slice A ps.length c] 26)).alloc (by simp) (.cells #[.int .i64 p1, .int .u64 x0] 37))
  have KC := Lib.hid ((Blk.new w 26 #[.int .i64 T, .int .i64 N, .int .u64 K, .slice A ps.length c]).alloc (.cells #[.int .i64 p1, .int .u64 x0] 37))
  have KP := Lib.hid (Blk.new_at (w.alloc (.cells #[.int .i64 T, .int .i64 N, .int .u64 K, .slice A ps.length c] 26)) 37 #[.int .i64 p1, .int .u64 x0] (g := w.heap.size + 1) (by simp))
  have k0 := KC.out.cell 0
  have k1 := KC.out.cell 1
  have k2 := KC.out.cell 2
  have k3 := KC.out.cell 3
  have HSP := Lib.hid hsp
  have HSM := Lib.hid hsm
  have HSC := Lib.hid hsc
  have P1 := Lib.hid (fun W h => Check6_any T N K A c ps hp W h)
  have P2 := Lib.hid (fun W h => may6_any T N K A ps.length c D cd cs hc W h)
  have P3 := Lib.hid (fun W h => find6_any D cs.length cd cs rfl hc.len p1 W h)
  unfold crewV at P1 P2 ⊢
  by_cases h1 : crewF T N K ps ≠ 0
  · rw [show cpartF T N K ps ms cs (p1, x0) = headF T N K ps cs from if_neg (by rw [headF_crew h1]; exact h1), headF_crew h1]
    have q1 : (crewF T N K ps == 0) = false := by simpa using h1
    clear hsp hsm hsc hp hm hc h1
    generalize crewF T N K ps = e1 at *
    go_enter Tryz.func25, Tryz.ntmps25
    go_wp2_with fail
    refine (P1.out _ (HSP.out.on D0.out)).mono ?_; rintro _ w1 ⟨rfl, b⟩
    have B1 := Lib.hid (below_on D0.out b)
    have KC1 := Lib.hid (KC.out.below b KC.out.lt)
    have KP1 := Lib.hid (KP.out.below b KP.out.lt)
    clear b k0 k1 k2 k3
    have k0 := KC1.out.cell 0
    have k1 := KC1.out.cell 1
    have k2 := KC1.out.cell 2
    have k3 := KC1.out.cell 3
    go_wp2_with fail
    go_ret
    exact ⟨rfl, B1.out⟩
  replace h1 : crewF T N K ps = 0 := Classical.not_not.1 h1
  by_cases h2 : mayF T N cs ≠ 0
  · rw [show cpartF T N K ps ms cs (p1, x0) = headF T N K ps cs from if_neg (by rw [headF_may h1]; exact h2), headF_may h1]
    have q1 : (mayF T N cs == 0) = false := by simpa using h2
    rw [h1] at P1
    clear hsp hsm hsc hp hm hc h1 h2
    generalize mayF T N cs = e1 at *
    go_enter Tryz.func25, Tryz.ntmps25
    go_wp2_with fail
    refine (P1.out _ (HSP.out.on D0.out)).mono ?_; rintro _ w1 ⟨rfl, b⟩
    have B1 := Lib.hid (below_on D0.out b)
    have KC1 := Lib.hid (KC.out.below b KC.out.lt)
    have KP1 := Lib.hid (KP.out.below b KP.out.lt)
    clear b k0 k1 k2 k3
    have k0 := KC1.out.cell 0
    have k1 := KC1.out.cell 1
    have k2 := KC1.out.cell 2
    have k3 := KC1.out.cell 3
    go_wp2_with fail
    refine (P2.out _ (HSC.out.on B1.out)).mono ?_; rintro _ w2 ⟨rfl, b⟩
    have B2 := Lib.hid (below_on B1.out b)
    have KC2 := Lib.hid (KC1.out.below b KC1.out.lt)
    have KP2 := Lib.hid (KP1.out.below b KP1.out.lt)
    clear b k0 k1 k2 k3
    have k0 := KC2.out.cell 0
    have k1 := KC2.out.cell 1
    have k2 := KC2.out.cell 2
    have k3 := KC2.out.cell 3
    go_wp2_with fail
    go_ret
    exact ⟨rfl, B2.out⟩
  replace h2 : mayF T N cs = 0 := Classical.not_not.1 h2
  rw [show cpartF T N K ps ms cs (p1, x0) = partF (chalF K ms cs) ps cs (p1, x0) from if_pos (by rw [headF_may h1]; exact h2)]
  rw [h1] at P1
  rw [h2] at P2
  have hcr := crewF_zero h1
  have hco := mayF_zero h2
  by_cases h3 : ¬ p1 ∈ cs.map Prod.fst
  · rw [partF_out (fun h => h3 h.1)]
    rw [idxF_none h3] at P3
    clear hsp hsm hsc hp hm hc h1 h2 h3 hcr hco
    go_enter Tryz.func25, Tryz.ntmps25
    go_wp2_with fail
    refine (P1.out _ (HSP.out.on D0.out)).mono ?_; rintro _ w1 ⟨rfl, b⟩
    have B1 := Lib.hid (below_on D0.out b)
    have KC1 := Lib.hid (KC.out.below b KC.out.lt)
    have KP1 := Lib.hid (KP.out.below b KP.out.lt)
    clear b k0 k1 k2 k3
    have k0 := KC1.out.cell 0
    have k1 := KC1.out.cell 1
    have k2 := KC1.out.cell 2
    have k3 := KC1.out.cell 3
    go_wp2_with fail
    refine (P2.out _ (HSC.out.on B1.out)).mono ?_; rintro _ w2 ⟨rfl, b⟩
    have B2 := Lib.hid (below_on B1.out b)
    have KC2 := Lib.hid (KC1.out.below b KC1.out.lt)
    have KP2 := Lib.hid (KP1.out.below b KP1.out.lt)
    clear b k0 k1 k2 k3
    have k0 := KC2.out.cell 0
    have k1 := KC2.out.cell 1
    have k2 := KC2.out.cell 2
    have k3 := KC2.out.cell 3
    have j0 := KP2.out.cell 0
    have j1 := KP2.out.cell 1
    go_wp2_with fail
    refine (P3.out _ (HSC.out.on B2.out)).mono ?_; rintro _ w3 ⟨rfl, b⟩
    have B3 := Lib.hid (below_on B2.out b)
    have KC3 := Lib.hid (KC2.out.below b KC2.out.lt)
    have KP3 := Lib.hid (KP2.out.below b KP2.out.lt)
    clear b k0 k1 k2 k3 j0 j1
    have k0 := KC3.out.cell 0
    have k1 := KC3.out.cell 1
    have k2 := KC3.out.cell 2
    have k3 := KC3.out.cell 3
    have j0 := KP3.out.cell 0
    have j1 := KP3.out.cell 1
    go_wp2_with fail
    go_ret
    exact ⟨rfl, B3.out⟩
  replace h3 : p1 ∈ cs.map Prod.fst := Classical.not_not.1 h3
  obtain ⟨k, hk, hid⟩ := ids_at h3
  rw [commits_idx hco.1 k hk hid] at P3
  by_cases h4 : ¬ x0 < 1152921504606845789
  · rw [partF_out (fun h => h4 h.2)]
    have q1 : decide (1152921504606845789 ≤ x0) = true := decide_eq_true (by omega)
    have q2 : decide ((k : Int) < 0) = false := decide_eq_false (by omega)
    clear hsp hsm hsc hp hm hc h1 h2 h3 h4 hcr hco hid
    go_enter Tryz.func25, Tryz.ntmps25
    go_wp2_with fail
    refine (P1.out _ (HSP.out.on D0.out)).mono ?_; rintro _ w1 ⟨rfl, b⟩
    have B1 := Lib.hid (below_on D0.out b)
    have KC1 := Lib.hid (KC.out.below b KC.out.lt)
    have KP1 := Lib.hid (KP.out.below b KP.out.lt)
    clear b k0 k1 k2 k3
    have k0 := KC1.out.cell 0
    have k1 := KC1.out.cell 1
    have k2 := KC1.out.cell 2
    have k3 := KC1.out.cell 3
    go_wp2_with fail
    refine (P2.out _ (HSC.out.on B1.out)).mono ?_; rintro _ w2 ⟨rfl, b⟩
    have B2 := Lib.hid (below_on B1.out b)
    have KC2 := Lib.hid (KC1.out.below b KC1.out.lt)
    have KP2 := Lib.hid (KP1.out.below b KP1.out.lt)
    clear b k0 k1 k2 k3
    have k0 := KC2.out.cell 0
    have k1 := KC2.out.cell 1
    have k2 := KC2.out.cell 2
    have k3 := KC2.out.cell 3
    have j0 := KP2.out.cell 0
    have j1 := KP2.out.cell 1
    go_wp2_with fail
    refine (P3.out _ (HSC.out.on B2.out)).mono ?_; rintro _ w3 ⟨rfl, b⟩
    have B3 := Lib.hid (below_on B2.out b)
    have KC3 := Lib.hid (KC2.out.below b KC2.out.lt)
    have KP3 := Lib.hid (KP2.out.below b KP2.out.lt)
    clear b k0 k1 k2 k3 j0 j1
    have k0 := KC3.out.cell 0
    have k1 := KC3.out.cell 1
    have k2 := KC3.out.cell 2
    have k3 := KC3.out.cell 3
    have j0 := KP3.out.cell 0
    have j1 := KP3.out.cell 1
    go_wp2_with fail
    go_ret
    exact ⟨rfl, B3.out⟩
  replace h4 : x0 < 1152921504606845789 := Classical.not_not.1 h4
  have q1 : decide (1152921504606845789 ≤ x0) = false := decide_eq_false (by omega)
  have q2 : decide ((k : Int) < 0) = false := decide_eq_false (by omega)
  obtain ⟨q, hq1⟩ : ∃ q : Nat, p1 = (q : Int) + 1 := ⟨(p1 - 1).toNat, by have := (hco.1 k hk).1; omega⟩
  have hN7 := hcr.1.2.2.1
  have hpl := hcr.1.2.2.2.2.1
  have hpar := (hco.1 k hk).1
  have hql : q < ps.length := by omega
  have hRI := commits_right hco.1 hN7 (by omega)
  have hqx := hp.u ps[q] (List.getElem_mem hql)
  have hcx := hc.u cs[k] (List.getElem_mem hk)
  have hca : cAt cs p1 = cs[k] := by rw [← hid]; exact cAt_eq hco.1 k hk
  have hFE : PartFits (chalF K ms cs) (cs.map Prod.fst) ps (cAt cs p1) (p1, x0) ↔ qpow 4 x0 = qmul cs[k].2 (qpow ps[q].2 (rmul (chalF K ms cs) (wat (cs.map Prod.fst) p1 0))) := by
    unfold PartFits
    rw [hca, hid, show (p1 - 1).toNat = q by omega, List.getElem?_eq_getElem hql]
    rfl
  obtain ⟨r, hr⟩ : ∃ r, partF (chalF K ms cs) ps cs (p1, x0) = r := ⟨_, rfl⟩
  have HR : (qpow 4 x0 = qmul cs[k].2 (qpow ps[q].2 (rmul (chalF K ms cs) (wat (cs.map Prod.fst) p1 0))) ∧ r = 0) ∨ (qpow 4 x0 ≠ qmul cs[k].2 (qpow ps[q].2 (rmul (chalF K ms cs) (wat (cs.map Prod.fst) p1 0))) ∧ r = 60) := by
    by_cases g : PartFits (chalF K ms cs) (cs.map Prod.fst) ps (cAt cs p1) (p1, x0)
    · exact .inl ⟨hFE.1 g, hr ▸ partF_yes ⟨h3, h4⟩ g⟩
    · exact .inr ⟨fun z => g (hFE.2 z), hr ▸ partF_no ⟨h3, h4⟩ g⟩
  rw [hr]
  have P4 := Lib.hid (fun W a b => scaled6_any T N K A ps.length c M cm ms D cd cs hc hm hRI p1 h3 W a b)
  unfold crewV at P4
  have hwb := rmul_bound (chalF K ms cs) (wat (cs.map Prod.fst) p1 0)
  generalize rmul (chalF K ms cs) (wat (cs.map Prod.fst) p1 0) = pw at *
  haveI : IsU pw := ⟨hwb.1, by omega⟩
  obtain ⟨ad, hA, had, c0, c1⟩ := hsc k hk
  obtain ⟨ae, hE, hae, d0, d1⟩ := hsp q hql
  haveI : IsU ps[q].2 := ⟨hqx.1, hqx.2⟩
  haveI : IsU cs[k].2 := ⟨hcx.1, hcx.2⟩
  have hcl : cs.length ≤ 1048576 := hc.len
  have hplen : ps.length ≤ 1048576 := hp.len
  obtain ⟨cx, hcx⟩ : ∃ cx, cs[k].2 = cx := ⟨_, rfl⟩
  obtain ⟨px, hpx⟩ : ∃ px, ps[q].2 = px := ⟨_, rfl⟩
  rw [hcx] at HR c1
  rw [hpx] at HR d1
  haveI : IsU cx := hcx ▸ inferInstance
  haveI : IsU px := hpx ▸ inferInstance
  rw [hid] at c0
  generalize ps[q].1 = pi at d0
  have P5 := Lib.hid (ref_Pow px pw)
  have hpb := qpow_bound px pw
  generalize qpow px pw = pp at *
  haveI : IsU pp := ⟨hpb.1, by omega⟩
  have P6 := Lib.hid (ref_Mul cx pp)
  generalize qmul cx pp = zz at *
  have P7 := Lib.hid (ref_Base x0)
  generalize qpow 4 x0 = yy at *
  subst hq1
  subst hA
  subst hE
  clear hsp hsm hsc hp hm hc h1 h2 h3 h4 hcr hco hid hqx hcx hpx hca hFE hr hRI hpar hwb hpb
  go_enter Tryz.func25, Tryz.ntmps25
  go_wp2_with fail
  refine (P1.out _ (HSP.out.on D0.out)).mono ?_; rintro _ w1 ⟨rfl, b⟩
  have B1 := Lib.hid (below_on D0.out b)
  have KC1 := Lib.hid (KC.out.below b KC.out.lt)
  have KP1 := Lib.hid (KP.out.below b KP.out.lt)
  clear b k0 k1 k2 k3
  have k0 := KC1.out.cell 0
  have k1 := KC1.out.cell 1
  have k2 := KC1.out.cell 2
  have k3 := KC1.out.cell 3
  go_wp2_with fail
  refine (P2.out _ (HSC.out.on B1.out)).mono ?_; rintro _ w2 ⟨rfl, b⟩
  have B2 := Lib.hid (below_on B1.out b)
  have KC2 := Lib.hid (KC1.out.below b KC1.out.lt)
  have KP2 := Lib.hid (KP1.out.below b KP1.out.lt)
  clear b k0 k1 k2 k3
  have k0 := KC2.out.cell 0
  have k1 := KC2.out.cell 1
  have k2 := KC2.out.cell 2
  have k3 := KC2.out.cell 3
  have j0 := KP2.out.cell 0
  have j1 := KP2.out.cell 1
  go_wp2_with fail
  refine (P3.out _ (HSC.out.on B2.out)).mono ?_; rintro _ w3 ⟨rfl, b⟩
  have B3 := Lib.hid (below_on B2.out b)
  have KC3 := Lib.hid (KC2.out.below b KC2.out.lt)
  have KP3 := Lib.hid (KP2.out.below b KP2.out.lt)
  clear b k0 k1 k2 k3 j0 j1
  have k0 := KC3.out.cell 0
  have k1 := KC3.out.cell 1
  have k2 := KC3.out.cell 2
  have k3 := KC3.out.cell 3
  have j0 := KP3.out.cell 0
  have j1 := KP3.out.cell 1
  have hbc : (ad.add (k * 2)).block < w3.heap.size := by rw [block_of_add]; exact Nat.lt_of_lt_of_le had B3.out.size
  have hbp : (ae.add (q * 2)).block < w3.heap.size := by rw [block_of_add]; exact Nat.lt_of_lt_of_le hae B3.out.size
  have c0 := (B3.out.cell (p := ad.add (k * 2)) (by rw [block_of_add]; exact had)).trans c0
  have c1 := (B3.out.cell (p := ⟨(ad.add (k * 2)).block, (ad.add (k * 2)).off + 1, none⟩) (by show (ad.add (k * 2)).block < _; rw [block_of_add]; exact had)).trans c1
  have d0 := (B3.out.cell (p := ae.add (q * 2)) (by rw [block_of_add]; exact hae)).trans d0
  have d1 := (B3.out.cell (p := ⟨(ae.add (q * 2)).block, (ae.add (q * 2)).off + 1, none⟩) (by show (ae.add (q * 2)).block < _; rw [block_of_add]; exact hae)).trans d1
  have hzc : w.heap.size < w3.heap.size := KC3.out.lt
  have hzp : w.heap.size + 1 < w3.heap.size := KP3.out.lt
  clear KC KP KC1 KP1 KC2 KP2 KC3 KP3 B1 B2 P1 P2 P3 had hae
  have hqi : (q : Int) < (ps.length : Int) := by omega
  have hq0 : (0 : Int) ≤ (q : Int) := by omega
  have hki : (k : Int) < (cs.length : Int) := by omega
  have hk0 : (0 : Int) ≤ (k : Int) := by omega
  have hwr : IntKind.i64.wrap (q : Int) = (q : Int) := IntWalk.i64_in _ (by omega)
  go_wp2_with fail
  have hW : Below w3.heap.size w3 w3.drew := (Below.refl w3.heap.size w3).drew
  go_region_held_law (fun w' => (w'.cell? ⟨w.heap.size, 0, none⟩ = some (.int .i64 T) ∧ w'.cell? ⟨w.heap.size, 1, none⟩ = some (.int .i64 N) ∧ w'.cell? ⟨w.heap.size, 2, none⟩ = some (.int .u64 K) ∧ w'.cell? ⟨w.heap.size, 3, none⟩ = some (.slice (some ae) ps.length c) ∧ w'.cell? ⟨w.heap.size + 1, 0, none⟩ = some (.int .i64 ((q : Int) + 1)) ∧ w'.cell? ⟨w.heap.size + 1, 1, none⟩ = some (.int .u64 x0)) ∧ w'.cell? (ad.add (k * 2)) = some (.int .i64 ((q : Int) + 1)) ∧ w'.cell? (⟨(ad.add (k * 2)).block, (ad.add (k * 2)).off + 1, none⟩) = some (.int .u64 cx) ∧ w'.cell? (ae.add (q * 2)) = some (.int .i64 pi) ∧ w'.cell? (⟨(ae.add (q * 2)).block, (ae.add (q * 2)).off + 1, none⟩) = some (.int .u64 px)) (first | exact ⟨⟨by assumption, by assumption, by assumption, by assumption, by assumption, by assumption⟩, by assumption, by assumption, by assumption, by assumption⟩ | go_keep)
    (first
      | (go_at_call 62; refine (P4.out _ (HSM.out.on (below_on B3.out hW)) (HSC.out.on (below_on B3.out hW))).mono ?_; rintro _ w4 ⟨rfl, bb⟩; have hW := below_on hW bb; have e0 := (hW.cell (p := ⟨w.heap.size, 0, none⟩) hzc).trans k0; have e1 := (hW.cell (p := ⟨w.heap.size, 1, none⟩) hzc).trans k1; have e2 := (hW.cell (p := ⟨w.heap.size, 2, none⟩) hzc).trans k2; have e3 := (hW.cell (p := ⟨w.heap.size, 3, none⟩) hzc).trans k3; have f0 := (hW.cell (p := ⟨w.heap.size + 1, 0, none⟩) hzp).trans j0; have f1 := (hW.cell (p := ⟨w.heap.size + 1, 1, none⟩) hzp).trans j1; have a0 := (hW.cell (p := ad.add (k * 2)) hbc).trans c0; have a1 := (hW.cell (p := ⟨(ad.add (k * 2)).block, (ad.add (k * 2)).off + 1, none⟩) hbc).trans c1; have g0 := (hW.cell (p := ae.add (q * 2)) hbp).trans d0; have g1 := (hW.cell (p := ⟨(ae.add (q * 2)).block, (ae.add (q * 2)).off + 1, none⟩) hbp).trans d1)
      | (go_at_call 66; refine (P5.out _).mono ?_; rintro _ _ ⟨rfl, rfl⟩)
      | (go_at_call 65; refine (P6.out _).mono ?_; rintro _ _ ⟨rfl, rfl⟩))
  all_goals
    have B4 := Lib.hid (below_on B3.out hW)
    clear hW k0 k1 k2 k3 c0 c1 d0 d1 e0 e1 e2 e3 a0 a1 g0 g1 hbc hbp
    go_wp2_with fail
    refine (P7.out _).mono ?_; rintro _ _ ⟨rfl, rfl⟩
    rcases HR with ⟨h, rfl⟩ | ⟨h, rfl⟩
    · have q3 : (yy == zz) = true := by simpa using h
      clear h
      go_wp2_with fail
      go_ret
      exact ⟨rfl, B4.out⟩
    · have q3 : (yy == zz) = false := by simpa using h
      clear h
      go_wp2_with fail
      go_ret
      exact ⟨rfl, B4.out⟩
end Go.Proofs.YtlannmedefjfhaaGreat

/- The document's own answers on a signer's part. -/
import Derived.Test.YtlannmedefjfhaaGreatQuorumR7
namespace Go.Proofs.YtlannmedefjfhaaGreat
open Go.ChangeShapes Go.WideShapes Go.ChangeAt Go.RowKit Gs
set_option linter.unusedVariables false

set_option maxRecDepth 100000 in
set_option maxHeartbeats 8000000 in
theorem Part6_go (T N K : Int) [IsU K] (A : Option Addr) (c : Nat) (ps : List (Int × Int)) (hp : ShFix c ps) (M : Option Addr) (cm : Nat) (ms : List Int) (hm : ByFix cm ms) (D : Option Addr) (cd : Nat) (cs : List (Int × Int)) (hc : ShFix cd cs) (x : Int × Int) [IsU x.2] (n : Int) (hne : aheadF T N K ps x n cs = 0) (w : World) (hsp : SS w w.heap.size A ps) (hsm : SI w w.heap.size .u8 M ms) (hsc : SS w w.heap.size D cs) :
    Calls Tryz.prog 23 #[crewV T N K A ps.length c, .agg #[.int .i64 x.1, .int .u64 x.2], .int .i64 n, .slice M ms.length cm, .slice D cs.length cd] w fun e w' => e = .returned (.tuple #[.agg #[.int .i64 (spartV T N K ps x n ms cs).1, .int .u64 (spartV T N K ps x n ms cs).2], .int .i64 (spartF T N K ps x n ms cs)]) ∧ Below w.heap.size w w' := by
  have D0 := Lib.hid ((((Below.refl w.heap.size w).alloc (Nat.le_refl _) (.cells #[.int .i64 T, .int .i64 N, .int .u64 K, .slice A ps.length c] 26)).alloc (by simp) (.cells #[.int .i64 x.1, .int .u64 x.2] 37)).alloc (by simp; omega) (.cells #[.int .i64 0, .int .u64 0] 37))
  have KC := Lib.hid (((Blk.new w 26 #[.int .i64 T, .int .i64 N, .int .u64 K, .slice A ps.length c]).alloc (.cells #[.int .i64 x.1, .int .u64 x.2] 37)).alloc (.cells #[.int .i64 0, .int .u64 0] 37))
  have KX := Lib.hid ((Blk.new_at (w.alloc (.cells #[.int .i64 T, .int .i64 N, .int .u64 K, .slice A ps.length c] 26)) 37 #[.int .i64 x.1, .int .u64 x.2] (g := w.heap.size + 1) (by simp)).alloc (.cells #[.int .i64 0, .int .u64 0] 37))
  have KR := Lib.hid (Blk.new_at ((w.alloc (.cells #[.int .i64 T, .int .i64 N, .int .u64 K, .slice A ps.length c] 26)).alloc (.cells #[.int .i64 x.1, .int .u64 x.2] 37)) 37 #[.int .i64 0, .int .u64 0] (g := w.heap.size + 2) (by simp))
  have k0 := KC.out.cell 0
  have k1 := KC.out.cell 1
  have k2 := KC.out.cell 2
  have k3 := KC.out.cell 3
  have HSP := Lib.hid hsp
  have HSM := Lib.hid hsm
  have HSC := Lib.hid hsc
  obtain ⟨hcr, hsg, hco, hen⟩ := aheadF_zero hne
  have h1 : crewF T N K ps = 0 := by
    by_cases g : crewF T N K ps = 0
    · exact g
    · rw [ahead_crew g] at hne; exact absurd hne g
  have h2 : mayF T N cs = 0 := by rw [ahead_may h1 hsg] at hne; exact hne
  have P1 := Lib.hid (fun W h => Check6_any T N K A c ps hp W h)
  have P2 := Lib.hid (fun W h => Commit6_ok x n hsg M cm ms hm W h)
  have P3 := Lib.hid (fun W h => may6_any T N K A ps.length c D cd cs hc W h)
  have P4 := Lib.hid (fun W h => find6_any D cs.length cd cs rfl hc.len x.1 W h)
  rw [h1] at P1
  rw [h2] at P3
  unfold crewV at P1 P3 ⊢
  have HC1 := fun (g : ¬ (x.1, qpow 4 (qnonce x n ms)) ∈ cs) => (show spartF T N K ps x n ms cs = 60 ∧ spartV T N K ps x n ms cs = (0, 0) from by
    have e : spartF T N K ps x n ms cs = 60 := by unfold spartF; rw [if_pos hne]; exact if_neg g
    exact ⟨e, if_neg (by rw [e]; omega)⟩)
  have HC2 := fun (g : (x.1, qpow 4 (qnonce x n ms)) ∈ cs) => (show spartF T N K ps x n ms cs = 0 ∧ spartV T N K ps x n ms cs = (x.1, radd (qnonce x n ms) (rmul (rmul (chalF K ms cs) (wat (cs.map Prod.fst) x.1 0)) x.2)) from by
    have e : spartF T N K ps x n ms cs = 0 := by unfold spartF; rw [if_pos hne]; exact if_pos g
    exact ⟨e, if_pos e⟩)
  by_cases h3 : ¬ x.1 ∈ cs.map Prod.fst
  · have hno := HC1 (fun g => h3 (List.mem_map.2 ⟨_, g, rfl⟩))
    rw [hno.1, hno.2]
    rw [idxF_none h3] at P4
    unfold qcom at P2
    clear hsp hsm hsc hp hm hc h1 h2 h3 hcr hco hsg hen hne HC1 HC2 hno
    generalize qpow 4 (qnonce x n ms) = z at *
    go_enter Tryz.func23, Tryz.ntmps23
    go_wp2_with fail
    refine (P1.out _ (HSP.out.on D0.out)).mono ?_; rintro _ w1 ⟨rfl, b⟩
    have B1 := Lib.hid (below_on D0.out b)
    have KC1 := Lib.hid (KC.out.below b KC.out.lt)
    have KX1 := Lib.hid (KX.out.below b KX.out.lt)
    have KR1 := Lib.hid (KR.out.below b KR.out.lt)
    clear b k0 k1 k2 k3
    have a0 := KX1.out.cell 0
    have a1 := KX1.out.cell 1
    go_wp2_with fail
    refine (P2.out _ (HSM.out.on B1.out)).mono ?_; rintro _ w2 ⟨rfl, b⟩
    have b' := b.alloc b.size (.cells #[.int .i64 x.1, .int .u64 z] 37)
    have KO2 := Lib.hid (Blk.new w2 37 #[.int .i64 x.1, .int .u64 (z)])
    have B2 := Lib.hid (below_on B1.out b')
    have KC2 := Lib.hid (KC1.out.below b' KC1.out.lt)
    have KX2 := Lib.hid (KX1.out.below b' KX1.out.lt)
    have KR2 := Lib.hid (KR1.out.below b' KR1.out.lt)
    clear b b' a0 a1
    have k0 := KC2.out.cell 0
    have k1 := KC2.out.cell 1
    have k2 := KC2.out.cell 2
    have k3 := KC2.out.cell 3
    go_wp2_with fail
    refine (P3.out _ (HSC.out.on B2.out)).mono ?_; rintro _ w3 ⟨rfl, b⟩
    have KO3 := Lib.hid (KO2.out.below b KO2.out.lt)
    have B3 := Lib.hid (below_on B2.out b)
    have KC3 := Lib.hid (KC2.out.below b KC2.out.lt)
    have KX3 := Lib.hid (KX2.out.below b KX2.out.lt)
    have KR3 := Lib.hid (KR2.out.below b KR2.out.lt)
    clear b k0 k1 k2 k3
    have a0 := KX3.out.cell 0
    have a1 := KX3.out.cell 1
    go_wp2_with fail
    refine (P4.out _ (HSC.out.on B3.out)).mono ?_; rintro _ w4 ⟨rfl, b⟩
    have B4 := Lib.hid (below_on B3.out b)
    have KC4 := Lib.hid (KC3.out.below b KC3.out.lt)
    have KX4 := Lib.hid (KX3.out.below b KX3.out.lt)
    have KR4 := Lib.hid (KR3.out.below b KR3.out.lt)
    have KO4 := Lib.hid (KO3.out.below b KO3.out.lt)
    clear b a0 a1
    have o0 := KO4.out.cell 0
    have o1 := KO4.out.cell 1
    go_wp2_with fail
    go_quiet (fail)
    have bq := (show Dr w4 (w4.drewN nq) from ⟨nq, rfl⟩).below w4.heap.size
    have B5 := Lib.hid (below_on B4.out bq)
    have KR5 := Lib.hid (KR4.out.below bq KR4.out.lt)
    have f0 := KR5.out.free 0
    have f1 := KR5.out.free 1
    have r0 := KR5.out.cell 0
    have r1 := KR5.out.cell 1
    have hlt := KR5.out.lt
    go_wp2_with fail
    have hk := (KR5.out.set 0 (.int .i64 0)).set 1 (.int .u64 0)
    have g0 := hk.cell 0
    have g1 := hk.cell 1
    refine bodyPost_ret (v := .tuple #[.agg #[.int .i64 0, .int .u64 0], .int .i64 (60)]) (by simp [results, Tryz.results23, go_sem, g0, g1]) rfl ?_
    exact ⟨rfl, below_setR (below_setR B5.out (by omega) _) (by omega) _⟩
  replace h3 : x.1 ∈ cs.map Prod.fst := Classical.not_not.1 h3
  obtain ⟨k, hk, hid⟩ := ids_at h3
  rw [commits_idx hco k hk hid] at P4
  have q2 : decide ((k : Int) < 0) = false := decide_eq_false (by omega)
  have hcl : cs.length ≤ 1048576 := hc.len
  have hki : (k : Int) < (cs.length : Int) := by omega
  have hk0 : (0 : Int) ≤ (k : Int) := by omega
  have hxx : (x.1 == x.1) = true := by simp
  obtain ⟨ad, hA, had, c0, c1⟩ := hsc k hk
  rw [hid] at c0
  have hmem : (x.1, qpow 4 (qnonce x n ms)) ∈ cs ↔ cs[k].2 = qpow 4 (qnonce x n ms) := by
    constructor
    · intro g
      obtain ⟨j, hj, e⟩ := List.getElem_of_mem g
      have e1 : cs[j].1 = cs[k].1 := by rw [e, hid]
      have ejk : j = k := by
        rcases Nat.lt_trichotomy j k with h | h | h
        · have := (hco k hk).2 j h; omega
        · exact h
        · have := (hco j hj).2 k h; omega
      subst ejk
      rw [e]
    · intro g
      exact List.mem_of_getElem (i := k) (h := hk) (Prod.ext hid g)
  by_cases h4 : ¬ cs[k].2 = qpow 4 (qnonce x n ms)
  · have hno := HC1 (fun g => h4 (hmem.1 g))
    rw [hno.1, hno.2]
    unfold qcom at P2
    have hcz : (cs[k].2 == qpow 4 (qnonce x n ms)) = false := by simpa using h4
    generalize cs[k].2 = cx at *
    clear hsp hsm hsc hp hm hc h1 h2 h3 h4 hcr hco hsg hen hne HC1 HC2 hno hid hmem
    generalize qpow 4 (qnonce x n ms) = z at *
    subst hA
    go_enter Tryz.func23, Tryz.ntmps23
    go_wp2_with fail
    refine (P1.out _ (HSP.out.on D0.out)).mono ?_; rintro _ w1 ⟨rfl, b⟩
    have B1 := Lib.hid (below_on D0.out b)
    have KC1 := Lib.hid (KC.out.below b KC.out.lt)
    have KX1 := Lib.hid (KX.out.below b KX.out.lt)
    have KR1 := Lib.hid (KR.out.below b KR.out.lt)
    clear b k0 k1 k2 k3
    have a0 := KX1.out.cell 0
    have a1 := KX1.out.cell 1
    go_wp2_with fail
    refine (P2.out _ (HSM.out.on B1.out)).mono ?_; rintro _ w2 ⟨rfl, b⟩
    have b' := b.alloc b.size (.cells #[.int .i64 x.1, .int .u64 z] 37)
    have KO2 := Lib.hid (Blk.new w2 37 #[.int .i64 x.1, .int .u64 (z)])
    have B2 := Lib.hid (below_on B1.out b')
    have KC2 := Lib.hid (KC1.out.below b' KC1.out.lt)
    have KX2 := Lib.hid (KX1.out.below b' KX1.out.lt)
    have KR2 := Lib.hid (KR1.out.below b' KR1.out.lt)
    clear b b' a0 a1
    have k0 := KC2.out.cell 0
    have k1 := KC2.out.cell 1
    have k2 := KC2.out.cell 2
    have k3 := KC2.out.cell 3
    go_wp2_with fail
    refine (P3.out _ (HSC.out.on B2.out)).mono ?_; rintro _ w3 ⟨rfl, b⟩
    have KO3 := Lib.hid (KO2.out.below b KO2.out.lt)
    have B3 := Lib.hid (below_on B2.out b)
    have KC3 := Lib.hid (KC2.out.below b KC2.out.lt)
    have KX3 := Lib.hid (KX2.out.below b KX2.out.lt)
    have KR3 := Lib.hid (KR2.out.below b KR2.out.lt)
    clear b k0 k1 k2 k3
    have a0 := KX3.out.cell 0
    have a1 := KX3.out.cell 1
    go_wp2_with fail
    refine (P4.out _ (HSC.out.on B3.out)).mono ?_; rintro _ w4 ⟨rfl, b⟩
    have B4 := Lib.hid (below_on B3.out b)
    have KC4 := Lib.hid (KC3.out.below b KC3.out.lt)
    have KX4 := Lib.hid (KX3.out.below b KX3.out.lt)
    have KR4 := Lib.hid (KR3.out.below b KR3.out.lt)
    have KO4 := Lib.hid (KO3.out.below b KO3.out.lt)
    clear b a0 a1
    have o0 := KO4.out.cell 0
    have o1 := KO4.out.cell 1
    have hbc : (ad.add (k * 2)).block < w4.heap.size := by rw [block_of_add]; exact Nat.lt_of_lt_of_le had B4.out.size
    have c0 := (B4.out.cell (p := ad.add (k * 2)) (by rw [block_of_add]; exact had)).trans c0
    have c1 := (B4.out.cell (p := ⟨(ad.add (k * 2)).block, (ad.add (k * 2)).off + 1, none⟩) (by show (ad.add (k * 2)).block < _; rw [block_of_add]; exact had)).trans c1
    go_wp2_with fail
    go_quiet (fail)
    have bq := (show Dr w4 (w4.drewN nq) from ⟨nq, rfl⟩).below w4.heap.size
    have B5 := Lib.hid (below_on B4.out bq)
    have KR5 := Lib.hid (KR4.out.below bq KR4.out.lt)
    have f0 := KR5.out.free 0
    have f1 := KR5.out.free 1
    have r0 := KR5.out.cell 0
    have r1 := KR5.out.cell 1
    have hlt := KR5.out.lt
    go_wp2_with fail
    have hk := (KR5.out.set 0 (.int .i64 0)).set 1 (.int .u64 0)
    have g0 := hk.cell 0
    have g1 := hk.cell 1
    refine bodyPost_ret (v := .tuple #[.agg #[.int .i64 0, .int .u64 0], .int .i64 (60)]) (by simp [results, Tryz.results23, go_sem, g0, g1]) rfl ?_
    exact ⟨rfl, below_setR (below_setR B5.out (by omega) _) (by omega) _⟩
  replace h4 : cs[k].2 = qpow 4 (qnonce x n ms) := Classical.not_not.1 h4
  have hyes := HC2 (hmem.2 h4)
  rw [hyes.1, hyes.2]
  unfold qcom at P2
  have hcz : (cs[k].2 == qpow 4 (qnonce x n ms)) = true := by simpa using h4
  have hRI := commits_right hco hcr.1.2.2.1 (by omega)
  have P5 := Lib.hid (fun W a b => scaled6_any T N K A ps.length c M cm ms D cd cs hc hm hRI x.1 h3 W a b)
  have P7 := Lib.hid (fun W h => nonce6_any x n hsg M cm ms hm.u hm.len hm.cap hm.max W h)
  unfold crewV at P5
  have hb1 := rmul_bound (chalF K ms cs) (wat (cs.map Prod.fst) x.1 0)
  generalize rmul (chalF K ms cs) (wat (cs.map Prod.fst) x.1 0) = m1 at *
  haveI : IsU m1 := ⟨hb1.1, by omega⟩
  have P6 := Lib.hid (fun W => (ref_MulR m1 x.2 W).mono fun r w' h => (⟨h.1, h.2 ▸ Below.refl W.heap.size W⟩ : r = .returned (.int .u64 (rmul m1 x.2)) ∧ Below W.heap.size W w'))
  have hb2 := rmul_bound m1 x.2
  generalize rmul m1 x.2 = m2 at *
  haveI : IsU m2 := ⟨hb2.1, by omega⟩
  have hqb := qnonce_bound x n ms
  generalize qnonce x n ms = qn at *
  haveI : IsU qn := ⟨by omega, by omega⟩
  have P8 := Lib.hid (fun W => (ref_AddR qn m2 W).mono fun r w' h => (⟨h.1, h.2 ▸ Below.refl W.heap.size W⟩ : r = .returned (.int .u64 (radd qn m2)) ∧ Below W.heap.size W w'))
  generalize radd qn m2 = an at *
  generalize cs[k].2 = cx at *
  clear hsp hsm hsc hp hm hc h1 h2 h3 h4 hcr hco hsg hen hne HC1 HC2 hyes hid hmem hRI hb1 hb2 hqb
  generalize qpow 4 qn = z at *
  subst hA
  go_enter Tryz.func23, Tryz.ntmps23
  go_wp2_with fail
  refine (P1.out _ (HSP.out.on D0.out)).mono ?_; rintro _ w1 ⟨rfl, b⟩
  have B1 := Lib.hid (below_on D0.out b)
  have KC1 := Lib.hid (KC.out.below b KC.out.lt)
  have KX1 := Lib.hid (KX.out.below b KX.out.lt)
  have KR1 := Lib.hid (KR.out.below b KR.out.lt)
  clear b k0 k1 k2 k3
  have a0 := KX1.out.cell 0
  have a1 := KX1.out.cell 1
  go_wp2_with fail
  refine (P2.out _ (HSM.out.on B1.out)).mono ?_; rintro _ w2 ⟨rfl, b⟩
  have b' := b.alloc b.size (.cells #[.int .i64 x.1, .int .u64 z] 37)
  have KO2 := Lib.hid (Blk.new w2 37 #[.int .i64 x.1, .int .u64 (z)])
  have B2 := Lib.hid (below_on B1.out b')
  have KC2 := Lib.hid (KC1.out.below b' KC1.out.lt)
  have KX2 := Lib.hid (KX1.out.below b' KX1.out.lt)
  have KR2 := Lib.hid (KR1.out.below b' KR1.out.lt)
  clear b b' a0 a1
  have k0 := KC2.out.cell 0
  have k1 := KC2.out.cell 1
  have k2 := KC2.out.cell 2
  have k3 := KC2.out.cell 3
  go_wp2_with fail
  refine (P3.out _ (HSC.out.on B2.out)).mono ?_; rintro _ w3 ⟨rfl, b⟩
  have KO3 := Lib.hid (KO2.out.below b KO2.out.lt)
  have B3 := Lib.hid (below_on B2.out b)
  have KC3 := Lib.hid (KC2.out.below b KC2.out.lt)
  have KX3 := Lib.hid (KX2.out.below b KX2.out.lt)
  have KR3 := Lib.hid (KR2.out.below b KR2.out.lt)
  clear b k0 k1 k2 k3
  have a0 := KX3.out.cell 0
  have a1 := KX3.out.cell 1
  go_wp2_with fail
  refine (P4.out _ (HSC.out.on B3.out)).mono ?_; rintro _ w4 ⟨rfl, b⟩
  have B4 := Lib.hid (below_on B3.out b)
  have KC4 := Lib.hid (KC3.out.below b KC3.out.lt)
  have KX4 := Lib.hid (KX3.out.below b KX3.out.lt)
  have KR4 := Lib.hid (KR3.out.below b KR3.out.lt)
  have KO4 := Lib.hid (KO3.out.below b KO3.out.lt)
  clear b a0 a1
  have o0 := KO4.out.cell 0
  have o1 := KO4.out.cell 1
  have hbc : (ad.add (k * 2)).block < w4.heap.size := by rw [block_of_add]; exact Nat.lt_of_lt_of_le had B4.out.size
  have c0 := (B4.out.cell (p := ad.add (k * 2)) (by rw [block_of_add]; exact had)).trans c0
  have c1 := (B4.out.cell (p := ⟨(ad.add (k * 2)).block, (ad.add (k * 2)).off + 1, none⟩) (by show (ad.add (k * 2)).block < _; rw [block_of_add]; exact had)).trans c1
  go_wp2_with fail
  go_quiet (fail)
  have bq := (show Dr w4 (w4.drewN nq) from ⟨nq, rfl⟩).below w4.heap.size
  generalize w4.drewN nq = w5 at *
  have B5 := Lib.hid (below_on B4.out bq)
  have KR5 := Lib.hid (KR4.out.below bq KR4.out.lt)
  have KC5 := Lib.hid (KC4.out.below bq KC4.out.lt)
  have KX5 := Lib.hid (KX4.out.below bq KX4.out.lt)
  clear c0 c1 o0 o1
  have k0 := KC5.out.cell 0
  have k1 := KC5.out.cell 1
  have k2 := KC5.out.cell 2
  have k3 := KC5.out.cell 3
  have a0 := KX5.out.cell 0
  have a1 := KX5.out.cell 1
  have hzc : w.heap.size < w5.heap.size := KC5.out.lt
  have hzx : w.heap.size + 1 < w5.heap.size := KX5.out.lt
  go_wp2_with fail
  have hW : Below w5.heap.size w5 w5.drew := (Below.refl w5.heap.size w5).drew
  go_cut [17] (fun s17 wx => s17 = .int .u64 m2 ∧ Below w5.heap.size w5 wx)
  case first =>
    go_region_held_law (fun w' => (w'.cell? ⟨w.heap.size, 0, none⟩ = some (.int .i64 T) ∧ w'.cell? ⟨w.heap.size, 1, none⟩ = some (.int .i64 N) ∧ w'.cell? ⟨w.heap.size, 2, none⟩ = some (.int .u64 K) ∧ w'.cell? ⟨w.heap.size, 3, none⟩ = some (.slice A ps.length c)) ∧ w'.cell? ⟨w.heap.size + 1, 0, none⟩ = some (.int .i64 x.1) ∧ w'.cell? ⟨w.heap.size + 1, 1, none⟩ = some (.int .u64 x.2)) (first | exact ⟨⟨by assumption, by assumption, by assumption, by assumption⟩, by assumption, by assumption⟩ | go_keep)
      (first
        | (go_at_call 62; refine (P5.out _ (HSM.out.on (below_on B5.out hW)) (HSC.out.on (below_on B5.out hW))).mono ?_; rintro _ w6 ⟨rfl, bb⟩; have hW := below_on hW bb; have e0 := (hW.cell (p := ⟨w.heap.size, 0, none⟩) hzc).trans k0; have e1 := (hW.cell (p := ⟨w.heap.size, 1, none⟩) hzc).trans k1; have e2 := (hW.cell (p := ⟨w.heap.size, 2, none⟩) hzc).trans k2; have e3 := (hW.cell (p := ⟨w.heap.size, 3, none⟩) hzc).trans k3; have g0 := (hW.cell (p := ⟨w.heap.size + 1, 0, none⟩) hzx).trans a0; have g1 := (hW.cell (p := ⟨w.heap.size + 1, 1, none⟩) hzx).trans a1)
        | (go_at_call 61; refine (P6.out _).mono ?_; rintro _ w7 ⟨rfl, bb⟩; have hW := below_on hW bb; have e0 := (hW.cell (p := ⟨w.heap.size, 0, none⟩) hzc).trans k0; have e1 := (hW.cell (p := ⟨w.heap.size, 1, none⟩) hzc).trans k1; have e2 := (hW.cell (p := ⟨w.heap.size, 2, none⟩) hzc).trans k2; have e3 := (hW.cell (p := ⟨w.heap.size, 3, none⟩) hzc).trans k3; have g0 := (hW.cell (p := ⟨w.heap.size + 1, 0, none⟩) hzx).trans a0; have g1 := (hW.cell (p := ⟨w.heap.size + 1, 1, none⟩) hzx).trans a1))
    all_goals
      clear k0 k1 k2 k3 a0 a1 e0 e1 e2 e3 g0 g1
      go_wp2_with fail
      go_meet
      exact ⟨rfl, hW⟩
  case rest =>
    obtain ⟨rfl, hX⟩ := hcut
    have B6 := Lib.hid (below_on B5.out hX)
    have KR6 := Lib.hid (KR5.out.below hX KR5.out.lt)
    have kx := KX5.out.below hX KX5.out.lt
    have a0 := kx.cell 0
    have a1 := kx.cell 1
    have hl4 : w.heap.size + 1 < wc.heap.size := kx.lt
    have hl5 : w.heap.size + 2 < wc.heap.size := KR6.out.lt
    have SM6 := Lib.hid (HSM.out.on B6.out)
    clear hX hW k0 k1 k2 k3 kx
    go_wp2_with fail
    have hW : Below wc.heap.size wc wc.drew := (Below.refl wc.heap.size wc).drew
    go_cut [11] (fun s11 wx => s11 = .int .i64 0 ∧ Blk wx (w.heap.size + 2) 37 #[.int .i64 x.1, .int .u64 an] ∧ Below w.heap.size w wx)
    case first =>
      go_region_held_law (fun w' => w'.cell? ⟨w.heap.size + 1, 0, none⟩ = some (.int .i64 x.1) ∧ w'.cell? ⟨w.heap.size + 1, 1, none⟩ = some (.int .u64 x.2)) (first | exact ⟨by assumption, by assumption⟩ | exact ⟨cell_setA (by simp only []; omega) (by assumption), cell_setA (by simp only []; omega) (by assumption)⟩ | go_keep)
        (first
          | (go_at_call 51; refine (P7.out _ (SM6.out.on hW)).mono ?_; rintro _ w8 ⟨rfl, bb⟩; have hW := below_on hW bb; have g0 := (hW.cell (p := ⟨w.heap.size + 1, 0, none⟩) hl4).trans a0; have g1 := (hW.cell (p := ⟨w.heap.size + 1, 1, none⟩) hl4).trans a1)
          | (go_at_call 63; refine (P8.out _).mono ?_; rintro _ w9 ⟨rfl, bb⟩; have hW := below_on hW bb; have g0 := (hW.cell (p := ⟨w.heap.size + 1, 0, none⟩) hl4).trans a0; have g1 := (hW.cell (p := ⟨w.heap.size + 1, 1, none⟩) hl4).trans a1; have HK := KR6.out.below hW KR6.out.lt; (obtain ⟨⟨u0, u1⟩, f0, f1⟩ := HK.facts2)))
      all_goals
        clear a0 a1 g0 g1
        go_wp2_with fail
        go_meet
        exact ⟨rfl, (KR6.out.below hW KR6.out.lt).set2, below_setR (below_setR (B6.out.trans (hW.mono B6.out.size)) (by omega) _) (by omega) _⟩
    case rest =>
      obtain ⟨rfl, hk, hB⟩ := hcut
      have h := hk.facts2.1
      go_wp2_with fail
      refine bodyPost_ret (v := .tuple #[.agg #[.int .i64 x.1, .int .u64 an], .int .i64 0]) (by simp [results, Tryz.results23, go_sem, h.1, h.2]) rfl ⟨rfl, hB⟩
end Go.Proofs.YtlannmedefjfhaaGreat

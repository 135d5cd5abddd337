/- The document's own answers on parts: Combine. -/
import Derived.Test.YtlannmedefjfhaaGreatQuorumR6
import Derived.Test.YtlannmedefjfhaaGreatQuorumLib
namespace Go.Proofs.YtlannmedefjfhaaGreat
open Go.ChangeShapes Go.WideShapes Go.ChangeAt Go.RowKit Gs
set_option linter.unusedVariables false

theorem ids_len {cs l : List (Int × Int)} (h : l.map Prod.fst = cs.map Prod.fst) : l.length = cs.length := by
  have := congrArg List.length h
  simpa using this
theorem ids_apart {cs l : List (Int × Int)} (k : Nat) (h1 : k < l.length) (h2 : k < cs.length) (h : l[k].1 ≠ cs[k].1) : l.map Prod.fst ≠ cs.map Prod.fst := by
  intro e
  have e2 : (l.map Prod.fst)[k]? = (cs.map Prod.fst)[k]? := by rw [e]
  simp [h1, h2] at e2
  exact h e2
theorem ids_same {cs l : List (Int × Int)} (hl : l.length = cs.length) (h : ∀ j (a : j < l.length) (b : j < cs.length), l[j].1 = cs[j].1) : l.map Prod.fst = cs.map Prod.fst := by
  apply List.ext_getElem (by simpa using hl)
  intro i a b
  rw [List.getElem_map, List.getElem_map]
  exact h i (by simpa using a) (by simpa using b)

set_option maxRecDepth 100000 in
set_option maxHeartbeats 8000000 in
theorem Combine6_any (T N K : Int) [IsU K] (A : Option Addr) (c : Nat) (ps : List (Int × Int)) (hp : ShFix c ps) (M : Option Addr) (cm : Nat) (ms : List Int) (hm : ByFix cm ms) (D : Option Addr) (cd : Nat) (cs : List (Int × Int)) (hc : ShFix cd cs) (E : Option Addr) (ce : Nat) (l : List (Int × Int)) (hl : ShFix ce l) (w : World) (hsp : SS w w.heap.size A ps) (hsm : SI w w.heap.size .u8 M ms) (hsc : SS w w.heap.size D cs) (hsl : SS w w.heap.size E l) :
    Calls Tryz.prog 27 #[crewV T N K A ps.length c, .slice M ms.length cm, .slice D cs.length cd, .slice E l.length ce] w fun e w' => e = .returned (.tuple #[.agg #[.int .u64 (combS T N K ps ms cs l).1, .int .u64 (combS T N K ps ms cs l).2], .int .i64 (combF T N K ps ms cs l)]) ∧ Below w.heap.size w w' := by
  have D0 := Lib.hid (((Below.refl w.heap.size w).alloc (Nat.le_refl _) (.cells #[.int .i64 T, .int .i64 N, .int .u64 K, .slice A ps.length c] 26)).alloc (by simp) (.cells #[.int .u64 0, .int .u64 0] 45))
  have KC := Lib.hid ((Blk.new w 26 #[.int .i64 T, .int .i64 N, .int .u64 K, .slice A ps.length c]).alloc (.cells #[.int .u64 0, .int .u64 0] 45))
  have KR := Lib.hid (Blk.new_at (w.alloc (.cells #[.int .i64 T, .int .i64 N, .int .u64 K, .slice A ps.length c] 26)) 45 #[.int .u64 0, .int .u64 0] (g := w.heap.size + 1) (by simp))
  have k0 := KC.out.cell 0
  have k1 := KC.out.cell 1
  have k2 := KC.out.cell 2
  have k3 := KC.out.cell 3
  have HSP := Lib.hid hsp
  have HSM := Lib.hid hsm
  have HSC := Lib.hid hsc
  have HSL := Lib.hid hsl
  have hll := hl.len
  have hcl := hc.len
  have HU := Lib.hid hl.u
  have P1 := Lib.hid (fun W h => Check6_any T N K A c ps hp W h)
  have P2 := Lib.hid (fun W h => may6_any T N K A ps.length c D cd cs hc W h)
  have P3 := Lib.hid (fun (p : Int × Int) (_ : IsU p.2) W a b d => CheckPart6_any T N K A c ps hp M cm ms hm D cd cs hc p W a b d)
  have P5 := Lib.hid (fun W a b => chal6_any T N K A ps.length c M cm ms D cd cs hc hm W a b)
  unfold crewV at P1 P2 P3 P5 ⊢
  by_cases h1 : crewF T N K ps ≠ 0
  · have hcf : combF T N K ps ms cs l = crewF T N K ps := by unfold combF; rw [if_neg (by rw [headF_crew h1]; exact h1), headF_crew h1]
    have hcs : combS T N K ps ms cs l = (0, 0) := if_neg (by rw [hcf]; exact h1)
    rw [hcs, hcf]
    have q1 : (crewF T N K ps == 0) = false := by simpa using h1
    clear hsp hsm hsc hsl hp hm hc hl h1 hcf hcs
    generalize crewF T N K ps = e1 at *
    go_enter Tryz.func27, Tryz.ntmps27
    go_wp2_with fail
    refine (P1.out _ (HSP.out.on D0.out)).mono ?_; rintro _ w1 ⟨rfl, b⟩
    have B1 := Lib.hid (below_on D0.out b)
    have KC1 := Lib.hid (KC.out.below b KC.out.lt)
    have KR1 := Lib.hid (KR.out.below b KR.out.lt)
    clear b k0 k1 k2 k3
    have k0 := KC1.out.cell 0
    have k1 := KC1.out.cell 1
    have k2 := KC1.out.cell 2
    have k3 := KC1.out.cell 3
    have f0 := KR1.out.free 0
    have f1 := KR1.out.free 1
    have r0 := KR1.out.cell 0
    have r1 := KR1.out.cell 1
    have hlt := KR1.out.lt
    go_wp2_with fail
    have hk := (KR1.out.set 0 (.int .u64 0)).set 1 (.int .u64 0)
    have g0 := hk.cell 0
    have g1 := hk.cell 1
    refine bodyPost_ret (v := .tuple #[.agg #[.int .u64 0, .int .u64 0], .int .i64 e1]) (by simp [results, Tryz.results27, go_sem, g0, g1]) rfl ?_
    exact ⟨rfl, below_setR (below_setR B1.out (by omega) _) (by omega) _⟩
  replace h1 : crewF T N K ps = 0 := Classical.not_not.1 h1
  rw [h1] at P1
  by_cases h2 : mayF T N cs ≠ 0
  · have hcf : combF T N K ps ms cs l = mayF T N cs := by unfold combF; rw [if_neg (by rw [headF_may h1]; exact h2), headF_may h1]
    have hcs : combS T N K ps ms cs l = (0, 0) := if_neg (by rw [hcf]; exact h2)
    rw [hcs, hcf]
    have q1 : (mayF T N cs == 0) = false := by simpa using h2
    clear hsp hsm hsc hsl hp hm hc hl h1 h2 hcf hcs
    generalize mayF T N cs = e1 at *
    go_enter Tryz.func27, Tryz.ntmps27
    go_wp2_with fail
    refine (P1.out _ (HSP.out.on D0.out)).mono ?_; rintro _ w1 ⟨rfl, b⟩
    have B1 := Lib.hid (below_on D0.out b)
    have KC1 := Lib.hid (KC.out.below b KC.out.lt)
    have KR1 := Lib.hid (KR.out.below b KR.out.lt)
    clear b k0 k1 k2 k3
    have k0 := KC1.out.cell 0
    have k1 := KC1.out.cell 1
    have k2 := KC1.out.cell 2
    have k3 := KC1.out.cell 3
    go_wp2_with fail
    refine (P2.out _ (HSC.out.on B1.out)).mono ?_; rintro _ w2 ⟨rfl, b⟩
    have B2 := Lib.hid (below_on B1.out b)
    have KC2 := Lib.hid (KC1.out.below b KC1.out.lt)
    have KR2 := Lib.hid (KR1.out.below b KR1.out.lt)
    clear b k0 k1 k2 k3
    have k0 := KC2.out.cell 0
    have k1 := KC2.out.cell 1
    have k2 := KC2.out.cell 2
    have k3 := KC2.out.cell 3
    have f0 := KR2.out.free 0
    have f1 := KR2.out.free 1
    have r0 := KR2.out.cell 0
    have r1 := KR2.out.cell 1
    have hlt := KR2.out.lt
    go_wp2_with fail
    have hk := (KR2.out.set 0 (.int .u64 0)).set 1 (.int .u64 0)
    have g0 := hk.cell 0
    have g1 := hk.cell 1
    refine bodyPost_ret (v := .tuple #[.agg #[.int .u64 0, .int .u64 0], .int .i64 e1]) (by simp [results, Tryz.results27, go_sem, g0, g1]) rfl ?_
    exact ⟨rfl, below_setR (below_setR B2.out (by omega) _) (by omega) _⟩
  replace h2 : mayF T N cs = 0 := Classical.not_not.1 h2
  rw [h2] at P2
  have hd : headF T N K ps cs = 0 := by rw [headF_may h1]; exact h2
  have HNo := Lib.hid (fun (g : l.map Prod.fst ≠ cs.map Prod.fst) => (show combF T N K ps ms cs l = 1 ∧ combS T N K ps ms cs l = (0, 0) by
    have e : combF T N K ps ms cs l = 1 := by unfold combF; rw [if_pos hd, if_neg g]
    exact ⟨e, if_neg (by rw [e]; omega)⟩))
  by_cases h3 : l.length ≠ cs.length
  · obtain ⟨hcf, hcs⟩ := HNo.out (fun g => h3 (ids_len g))
    rw [hcs, hcf]
    have q1 : ((l.length : Int) == (cs.length : Int)) = false := beq_eq_false_iff_ne.2 (by omega)
    have q2 : (l.length == cs.length) = false := beq_eq_false_iff_ne.2 h3
    clear hsp hsm hsc hsl hp hm hc hl h1 h2 h3 hcf hcs hd HNo
    go_enter Tryz.func27, Tryz.ntmps27
    go_wp2_with fail
    refine (P1.out _ (HSP.out.on D0.out)).mono ?_; rintro _ w1 ⟨rfl, b⟩
    have B1 := Lib.hid (below_on D0.out b)
    have KC1 := Lib.hid (KC.out.below b KC.out.lt)
    have KR1 := Lib.hid (KR.out.below b KR.out.lt)
    clear b k0 k1 k2 k3
    have k0 := KC1.out.cell 0
    have k1 := KC1.out.cell 1
    have k2 := KC1.out.cell 2
    have k3 := KC1.out.cell 3
    go_wp2_with fail
    refine (P2.out _ (HSC.out.on B1.out)).mono ?_; rintro _ w2 ⟨rfl, b⟩
    have B2 := Lib.hid (below_on B1.out b)
    have KC2 := Lib.hid (KC1.out.below b KC1.out.lt)
    have KR2 := Lib.hid (KR1.out.below b KR1.out.lt)
    clear b k0 k1 k2 k3
    have k0 := KC2.out.cell 0
    have k1 := KC2.out.cell 1
    have k2 := KC2.out.cell 2
    have k3 := KC2.out.cell 3
    have f0 := KR2.out.free 0
    have f1 := KR2.out.free 1
    have r0 := KR2.out.cell 0
    have r1 := KR2.out.cell 1
    have hlt := KR2.out.lt
    go_wp2_with fail
    have hk := (KR2.out.set 0 (.int .u64 0)).set 1 (.int .u64 0)
    have g0 := hk.cell 0
    have g1 := hk.cell 1
    refine bodyPost_ret (v := .tuple #[.agg #[.int .u64 0, .int .u64 0], .int .i64 1]) (by simp [results, Tryz.results27, go_sem, g0, g1]) rfl ?_
    exact ⟨rfl, below_setR (below_setR B2.out (by omega) _) (by omega) _⟩
  replace h3 : l.length = cs.length := Classical.not_not.1 h3
  have HYes := Lib.hid (fun (g : l.map Prod.fst = cs.map Prod.fst) => (show combF T N K ps ms cs l = wrongF (chalF K ms cs) ps cs l by unfold combF; rw [if_pos hd, if_pos g]))
  have HS0 := Lib.hid (fun (g : combF T N K ps ms cs l ≠ 0) => (show combS T N K ps ms cs l = (0, 0) from if_neg g))
  have HS1 := Lib.hid (fun (g : combF T N K ps ms cs l = 0) => (show combS T N K ps ms cs l = (chalF K ms cs, rsum (l.map Prod.snd)) from if_pos g))
  have HCP : ∀ p, cpartF T N K ps ms cs p = partF (chalF K ms cs) ps cs p := fun p => if_pos hd
  have p3 := P3.out
  simp only [HCP] at p3
  have P4 := Lib.hid p3
  clear P3 p3 HCP
  have HW1 := Lib.hid (fun (k : Nat) (h : k < l.length) (g : ∀ j (a : j < l.length), j < k → partF (chalF K ms cs) ps cs l[j] = 0) (n : partF (chalF K ms cs) ps cs l[k] ≠ 0) => (show wrongF (chalF K ms cs) ps cs l = partF (chalF K ms cs) ps cs l[k] by
    have := firstE_stop (l.map (partF (chalF K ms cs) ps cs)) k (by simpa using h) (fun i a b => by rw [List.getElem_map]; exact g i (by simpa using a) b) (by rw [List.getElem_map]; exact n)
    unfold wrongF
    rw [this, List.getElem_map]))
  have HW2 := Lib.hid (fun (g : ∀ j (a : j < l.length), j < l.length → partF (chalF K ms cs) ps cs l[j] = 0) => (show wrongF (chalF K ms cs) ps cs l = 0 from firstE_none _ (fun i a => by rw [List.getElem_map]; exact g i (by simpa using a) (by simpa using a))))
  clear hsp hsm hsc hsl hp hm hc hl h1 h2 hd
  generalize partF (chalF K ms cs) ps cs = pf at *
  generalize wrongF (chalF K ms cs) ps cs l = wf at *
  generalize combF T N K ps ms cs l = cf at *
  generalize combS T N K ps ms cs l = sg at *
  generalize chalF K ms cs = ch at *
  obtain ⟨m, hm2⟩ : ∃ m, cs.length = m := ⟨_, rfl⟩
  have hlm : l.length = m := by omega
  rw [hm2] at P2 P4 P5 ⊢
  rw [hlm]
  have hmm : m ≤ 1048576 := by omega
  have HL := Lib.hid (And.intro hlm hm2)
  clear h3 hm2 hlm hll hcl
  go_enter Tryz.func27, Tryz.ntmps27
  go_wp2_with fail
  refine (P1.out _ (HSP.out.on D0.out)).mono ?_; rintro _ w1 ⟨rfl, b⟩
  have B1 := Lib.hid (below_on D0.out b)
  have KC1 := Lib.hid (KC.out.below b KC.out.lt)
  have KR1 := Lib.hid (KR.out.below b KR.out.lt)
  clear b k0 k1 k2 k3
  have k0 := KC1.out.cell 0
  have k1 := KC1.out.cell 1
  have k2 := KC1.out.cell 2
  have k3 := KC1.out.cell 3
  go_wp2_with fail
  refine (P2.out _ (HSC.out.on B1.out)).mono ?_; rintro _ w2 ⟨rfl, b⟩
  have B2 := Lib.hid (below_on B1.out b)
  have KC2 := Lib.hid (KC1.out.below b KC1.out.lt)
  have KR2 := Lib.hid (KR1.out.below b KR1.out.lt)
  clear b k0 k1 k2 k3
  have k0 := KC2.out.cell 0
  have k1 := KC2.out.cell 1
  have k2 := KC2.out.cell 2
  have k3 := KC2.out.cell 3
  have HSC2 := Lib.hid (HSC.out.on B2.out)
  have HSL2 := Lib.hid (HSL.out.on B2.out)
  have HSP2 := Lib.hid (HSP.out.on B2.out)
  have HSM2 := Lib.hid (HSM.out.on B2.out)
  clear HSC HSL HSP HSM D0 B1 KC KC1 KR KR1
  go_wp2_with fail
  clear k0 k1 k2 k3
  have hz2 := KR2.out.lt
  go_loopw [12] (fun i wr => ∃ (k : Nat), k ≤ m ∧ i = .int .i64 k ∧ (∀ j (a : j < l.length) (b : j < cs.length), j < k → l[j].1 = cs[j].1) ∧ Below w2.heap.size w2 wr) (fun i _ => m - (intOf i).toNat)
  case atStart => exact ⟨0, by omega, rfl, fun j a b h => by omega, Below.refl _ _⟩
  case round =>
    obtain ⟨k, hk, rfl, h0, hb⟩ := hrel
    have HB := Lib.hid hb
    have H0 := Lib.hid h0
    have hz := hb.size
    clear hb h0
    by_cases hlm : k < m
    · have hlc : k < cs.length := by have := HL.out; omega
      have hlt : k < l.length := by have := HL.out; omega
      have HA := Lib.hid (fun g => ids_apart k hlt hlc g)
      obtain ⟨ad, rfl, had, c0, c1⟩ := (HSL2.out.below HB.out) k hlt
      obtain ⟨ae, rfl, hae, d0, d1⟩ := (HSC2.out.below HB.out) k hlc
      clear c1 d1
      by_cases h1 : l[k].1 = cs[k].1
      · have HN := Lib.hid (show ∀ j (a : j < l.length) (b : j < cs.length), j < k + 1 → l[j].1 = cs[j].1 from fun j a b h => by
          by_cases e : j = k
          · subst e; exact h1
          · exact H0.out j a b (by omega))
        rw [← h1] at d0
        clear h1 HA
        generalize l[k].1 = x1 at *
        go_wp2_with fail
        go_quiet (fail)
        go_wp2_with fail
        go_roundw
        case rel => exact ⟨k + 1, by omega, by go_num, HN.out, below_drewN HB.out _⟩
        case measure => simp [intOf]; omega
      · have HE := Lib.hid (HNo.out (HA.out h1))
        have q3 : (l[k].1 == cs[k].1) = false := by simpa using h1
        clear h1 HA
        generalize l[k].1 = x1 at *
        generalize cs[k].1 = y1 at *
        go_wp2_with fail
        go_quiet (fail)
        have bq := below_drewN HB.out nq
        generalize wr.drewN nq = w3 at *
        have B3 := Lib.hid (below_on B2.out bq)
        have KR3 := Lib.hid (KR2.out.below bq KR2.out.lt)
        clear c0 d0
        have f0 := KR3.out.free 0
        have f1 := KR3.out.free 1
        have r0 := KR3.out.cell 0
        have r1 := KR3.out.cell 1
        have hlt := KR3.out.lt
        go_wp2_with fail
        have hk := (KR3.out.set 0 (.int .u64 0)).set 1 (.int .u64 0)
        have g0 := hk.cell 0
        have g1 := hk.cell 1
        rw [HE.out.1, HE.out.2]
        refine bodyPost_ret (v := .tuple #[.agg #[.int .u64 0, .int .u64 0], .int .i64 1]) (by simp [results, Tryz.results27, go_sem, g0, g1]) rfl ?_
        exact ⟨rfl, below_setR (below_setR B3.out (by omega) _) (by omega) _⟩
    · obtain rfl : m = k := by omega
      have HI := Lib.hid (HYes.out (ids_same (by have := HL.out; omega) (fun j a b => H0.out j a b (by have := HL.out; omega))))
      have HSC3 := Lib.hid (HSC2.out.on HB.out)
      have HSL3 := Lib.hid (HSL2.out.on HB.out)
      have HSP3 := Lib.hid (HSP2.out.on HB.out)
      have HSM3 := Lib.hid (HSM2.out.on HB.out)
      have KC3 := Lib.hid (KC2.out.below HB.out KC2.out.lt)
      have KR3 := Lib.hid (KR2.out.below HB.out KR2.out.lt)
      have B3 := Lib.hid (below_on B2.out HB.out)
      clear HSC2 HSL2 HSP2 HSM2 KC2 KR2 H0 HNo HYes
      go_wp2_with fail
      clear HB hz
      obtain ⟨w3, hw3⟩ : ∃ w3, w3 = wr := ⟨_, rfl⟩
      subst hw3
      have hz3 := KR3.out.lt
      go_loopw [13, 14] (fun s i wv => ∃ (k : Nat), k ≤ m ∧ i = .int .i64 k ∧ s = .int .u64 (rsum ((l.map Prod.snd).take k)) ∧ (∀ j (a : j < l.length), j < k → pf l[j] = 0) ∧ Below w3.heap.size w3 wv) (fun _ i _ => m - (intOf i).toNat)
      case atStart => exact ⟨0, by omega, rfl, rfl, fun j a h => by omega, Below.refl _ _⟩
      case round =>
        obtain ⟨k, hk, rfl, rfl, h0, hb⟩ := hrel
        have HB := Lib.hid hb
        have H0 := Lib.hid h0
        have hz := hb.size
        clear hb h0
        have KCw := Lib.hid (KC3.out.below HB.out KC3.out.lt)
        have KRw := Lib.hid (KR3.out.below HB.out KR3.out.lt)
        have HSPw := Lib.hid (HSP3.out.on HB.out)
        have HSMw := Lib.hid (HSM3.out.on HB.out)
        have HSCw := Lib.hid (HSC3.out.on HB.out)
        have Bw := Lib.hid (below_on B3.out HB.out)
        have k0 := KCw.out.cell 0
        have k1 := KCw.out.cell 1
        have k2 := KCw.out.cell 2
        have k3 := KCw.out.cell 3
        have hzc : w.heap.size < wr.heap.size := KCw.out.lt
        by_cases hlm : k < m
        · have hlt : k < l.length := by have := HL.out; omega
          have hx := HU.out l[k] (List.getElem_mem hlt)
          haveI : IsU l[k].2 := ⟨hx.1, hx.2⟩
          have P := Lib.hid (P4.out l[k] inferInstance)
          have PA := Lib.hid (ref_AddR (rsum ((l.map Prod.snd).take k)) l[k].2)
          have HT := Lib.hid (rsum_take l k hlt)
          have HW := Lib.hid (HW1.out k hlt H0.out)
          have HN := Lib.hid (fun (h1 : pf l[k] = 0) => (show ∀ j (a : j < l.length), j < k + 1 → pf l[j] = 0 from fun j a h => by
            by_cases e : j = k
            · subst e; exact h1
            · exact H0.out j a (by omega)))
          obtain ⟨ad, rfl, had, c0, c1⟩ := (HSL3.out.on HB.out) k hlt
          have hbk : (ad.add (k * 2)).block < wr.heap.size := by rw [block_of_add]; exact had
          generalize pf l[k] = r at *
          clear hx had
          by_cases hr : r = 0
          · subst hr
            have HN2 := Lib.hid (HN.out rfl)
            clear HN HW
            generalize l[k].1 = y1 at *
            generalize l[k].2 = y2 at *
            go_wp2_with fail
            have hW : Below wr.heap.size wr wr.drew := (Below.refl wr.heap.size wr).drew
            go_region_held_law (fun w' => (w'.cell? ⟨w.heap.size, 0, none⟩ = some (.int .i64 T) ∧ w'.cell? ⟨w.heap.size, 1, none⟩ = some (.int .i64 N) ∧ w'.cell? ⟨w.heap.size, 2, none⟩ = some (.int .u64 K) ∧ w'.cell? ⟨w.heap.size, 3, none⟩ = some (.slice A ps.length c)) ∧ w'.cell? (ad.add (k * 2)) = some (.int .i64 y1) ∧ w'.cell? (⟨(ad.add (k * 2)).block, (ad.add (k * 2)).off + 1, none⟩) = some (.int .u64 y2)) (first | exact ⟨⟨by assumption, by assumption, by assumption, by assumption⟩, by assumption, by assumption⟩ | go_keep)
              ((go_at_call 25; refine (P.out _ (HSPw.out.on hW) (HSMw.out.on hW) (HSCw.out.on hW)).mono ?_; rintro _ w5 ⟨rfl, bb⟩; have hW := below_on hW bb; have e0 := (hW.cell (p := ⟨w.heap.size, 0, none⟩) hzc).trans k0; have e1 := (hW.cell (p := ⟨w.heap.size, 1, none⟩) hzc).trans k1; have e2 := (hW.cell (p := ⟨w.heap.size, 2, none⟩) hzc).trans k2; have e3 := (hW.cell (p := ⟨w.heap.size, 3, none⟩) hzc).trans k3; have a0 := (hW.cell (p := ad.add (k * 2)) hbk).trans c0; have a1 := (hW.cell (p := ⟨(ad.add (k * 2)).block, (ad.add (k * 2)).off + 1, none⟩) hbk).trans c1))
            all_goals
              have BX := Lib.hid (HB.out.trans (hW.mono hz))
              have c1' := (hW.cell (p := ⟨(ad.add (k * 2)).block, (ad.add (k * 2)).off + 1, none⟩) hbk).trans c1
              clear hW k0 k1 k2 k3 c0 c1 e0 e1 e2 e3 a0 a1
              go_wp2_with fail
              refine (PA.out _).mono ?_; rintro _ _ ⟨rfl, rfl⟩
              go_wp2_with fail
              go_roundw
              case rel => exact ⟨k + 1, by omega, by go_num, by rw [HT.out], HN2.out, BX.out⟩
              case measure => simp [intOf]; omega
          · have HWf := Lib.hid (HW.out hr)
            have q4 : (r == 0) = false := by simpa using hr
            have HCF := Lib.hid (HI.out.trans HWf.out)
            have HSG := Lib.hid (HS0.out (by rw [HCF.out]; exact hr))
            clear HN HW hr HT PA
            generalize l[k].1 = y1 at *
            generalize l[k].2 = y2 at *
            go_wp2_with fail
            have hW : Below wr.heap.size wr wr.drew := (Below.refl wr.heap.size wr).drew
            go_region_held_law (fun w' => (w'.cell? ⟨w.heap.size, 0, none⟩ = some (.int .i64 T) ∧ w'.cell? ⟨w.heap.size, 1, none⟩ = some (.int .i64 N) ∧ w'.cell? ⟨w.heap.size, 2, none⟩ = some (.int .u64 K) ∧ w'.cell? ⟨w.heap.size, 3, none⟩ = some (.slice A ps.length c)) ∧ w'.cell? (ad.add (k * 2)) = some (.int .i64 y1) ∧ w'.cell? (⟨(ad.add (k * 2)).block, (ad.add (k * 2)).off + 1, none⟩) = some (.int .u64 y2)) (first | exact ⟨⟨by assumption, by assumption, by assumption, by assumption⟩, by assumption, by assumption⟩ | go_keep)
              ((go_at_call 25; refine (P.out _ (HSPw.out.on hW) (HSMw.out.on hW) (HSCw.out.on hW)).mono ?_; rintro _ w5 ⟨rfl, bb⟩; have hW := below_on hW bb; have e0 := (hW.cell (p := ⟨w.heap.size, 0, none⟩) hzc).trans k0; have e1 := (hW.cell (p := ⟨w.heap.size, 1, none⟩) hzc).trans k1; have e2 := (hW.cell (p := ⟨w.heap.size, 2, none⟩) hzc).trans k2; have e3 := (hW.cell (p := ⟨w.heap.size, 3, none⟩) hzc).trans k3; have a0 := (hW.cell (p := ad.add (k * 2)) hbk).trans c0; have a1 := (hW.cell (p := ⟨(ad.add (k * 2)).block, (ad.add (k * 2)).off + 1, none⟩) hbk).trans c1))
            all_goals
              have BX := Lib.hid (below_on Bw.out hW)
              have KX := Lib.hid (KRw.out.below hW KRw.out.lt)
              clear hW k0 k1 k2 k3 c0 c1 e0 e1 e2 e3 a0 a1
              have f0 := KX.out.free 0
              have f1 := KX.out.free 1
              have r0 := KX.out.cell 0
              have r1 := KX.out.cell 1
              have hlt := KX.out.lt
              go_wp2_with fail
              have hk := (KX.out.set 0 (.int .u64 0)).set 1 (.int .u64 0)
              have g0 := hk.cell 0
              have g1 := hk.cell 1
              rw [HSG.out, HCF.out]
              refine bodyPost_ret (v := .tuple #[.agg #[.int .u64 0, .int .u64 0], .int .i64 r]) (by simp [results, Tryz.results27, go_sem, g0, g1]) rfl ?_
              exact ⟨rfl, below_setR (below_setR BX.out (by omega) _) (by omega) _⟩
        · obtain rfl : m = k := by omega
          have HA := Lib.hid (show (l.map Prod.snd).take m = l.map Prod.snd from List.take_of_length_le (by rw [List.length_map]; have := HL.out; omega))
          have HCF := Lib.hid (HI.out.trans (HW2.out (fun j a _ => H0.out j a (by have := HL.out; omega))))
          have HSG := Lib.hid (HS1.out HCF.out)
          rw [HA.out]
          clear HI HW1 HW2 HS0 HS1 H0
          go_wp2_with fail
          refine (P5.out _ HSMw.out HSCw.out).mono ?_; rintro _ w5 ⟨rfl, b⟩
          have BX := Lib.hid (below_on Bw.out b)
          have KX := Lib.hid (KRw.out.below b KRw.out.lt)
          clear b k0 k1 k2 k3
          have f0 := KX.out.free 0
          have f1 := KX.out.free 1
          have r0 := KX.out.cell 0
          have r1 := KX.out.cell 1
          have hlt := KX.out.lt
          go_wp2_with fail
          have hk := (KX.out.set 0 (.int .u64 ch)).set 1 (.int .u64 (rsum (l.map Prod.snd)))
          have g0 := hk.cell 0
          have g1 := hk.cell 1
          rw [HSG.out, HCF.out]
          refine bodyPost_ret (v := .tuple #[.agg #[.int .u64 ch, .int .u64 (rsum (l.map Prod.snd))], .int .i64 0]) (by simp [results, Tryz.results27, go_sem, g0, g1]) rfl ?_
          exact ⟨rfl, below_setR (below_setR BX.out (by omega) _) (by omega) _⟩
end Go.Proofs.YtlannmedefjfhaaGreat

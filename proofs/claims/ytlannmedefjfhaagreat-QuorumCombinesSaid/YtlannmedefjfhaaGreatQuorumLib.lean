/- Several texts of one kind, one behind the other: QuorumL, QuorumM, QuorumN. -/
import Derived.Test.YtlannmedefjfhaaGreatQuorumK
/- What package quorum tells of a part, and what it combines. -/
namespace Go.Proofs.YtlannmedefjfhaaGreat
open Go.ChangeShapes Go.WideShapes Go.ChangeAt Go.RowKit Gs
set_option linter.unusedVariables false

theorem head_first (T N K : Int) [IsU K] (A : Option Addr) (c : Nat) (ps : List (Int × Int)) (hp : ShFix c ps) (M : Option Addr) (cm : Nat) (ms : List Int) (hm : ByFix cm ms) (D : Option Addr) (cd : Nat) (cs : List (Int × Int)) (hc : ShFix cd cs) (A4 : Option Addr) (c4 : Nat) (w : World) (hsp : SS w w.heap.size A ps) (hsm : SI w w.heap.size .u8 M ms) (hsc : SS w w.heap.size D cs) (hk : ∀ j (hj : j < ([⟨52, #[roundV T N K A ps.length c M ms.length cm D cs.length cd]⟩, ⟨53, #[roundV T N K A ps.length c M ms.length cm D cs.length cd]⟩, ⟨54, #[roundV T N K A ps.length c M ms.length cm D cs.length cd]⟩] : List Chk).length), ∃ ad, A4 = some ad ∧ ad.block < w.heap.size ∧ w.cell? (ad.add j) = some ([⟨52, #[roundV T N K A ps.length c M ms.length cm D cs.length cd]⟩, ⟨53, #[roundV T N K A ps.length c M ms.length cm D cs.length cd]⟩, ⟨54, #[roundV T N K A ps.length c M ms.length cm D cs.length cd]⟩] : List Chk)[j].val) :
    Calls Tryz.prog 41 #[.slice A4 3 c4] w fun e w' => e = .returned (.int .i64 (headF T N K ps cs)) ∧ Below w.heap.size w w' :=
  first_any A4 c4 [⟨52, #[roundV T N K A ps.length c M ms.length cm D cs.length cd]⟩, ⟨53, #[roundV T N K A ps.length c M ms.length cm D cs.length cd]⟩, ⟨54, #[roundV T N K A ps.length c M ms.length cm D cs.length cd]⟩] [crewF T N K ps, commF N cs, enoughF T cs] rfl (by simp) w hk
    (fun j h args w => by
      rcases j with _ | _ | _ | j
      · exact runs_in Tryz.func52 (by kernel_rfl) rfl args w
      · exact runs_in Tryz.func53 (by kernel_rfl) rfl args w
      · exact runs_in Tryz.func54 (by kernel_rfl) rfl args w
      · exact absurd h (by simp <;> omega))
    (fun j h g hz W' hW' => by
      rcases j with _ | _ | _ | j
      · exact crewMay_any T N K A c ps hp M ms.length cm D cs.length cd W' (hsp.on hW')
      · exact commits_any T N K A ps.length c M ms.length cm D cd cs hc W' (hsc.on hW')
      · exact enough_any T N K A ps.length c M ms.length cm D cd cs hc.len W'
      · exact absurd h (by simp <;> omega))

theorem wrong_one (e : Int) (ps cs : List (Int × Int)) (p : Int × Int) : wrongF e ps cs [p] = partF e ps cs p := by
  show firstE [partF e ps cs p] = _
  by_cases h : partF e ps cs p = 0
  · rw [show firstE [partF e ps cs p] = firstE [] from if_pos h, h]; rfl
  · exact if_neg h

set_option maxRecDepth 100000 in
set_option maxHeartbeats 8000000 in
theorem CheckPart_any (T N K : Int) [IsU K] (A : Option Addr) (c : Nat) (ps : List (Int × Int)) (hp : ShFix c ps) (M : Option Addr) (cm : Nat) (ms : List Int) (hm : ByFix cm ms) (D : Option Addr) (cd : Nat) (cs : List (Int × Int)) (hc : ShFix cd cs) (p : Int × Int) [IsU p.2] (w : World) (hsp : SS w w.heap.size A ps) (hsm : SI w w.heap.size .u8 M ms) (hsc : SS w w.heap.size D cs) :
    Calls Tryz.prog 24 #[crewV T N K A ps.length c, .slice M ms.length cm, .slice D cs.length cd, .agg #[.int .i64 p.1, .int .u64 p.2]] w fun e w' => e = .returned (.int .i64 (cpartF T N K ps ms cs p)) ∧ Below w.heap.size w w' := by
  have D0 := Lib.hid ((((Below.refl w.heap.size w).alloc (Nat.le_refl _) (.cells #[.int .i64 T, .int .i64 N, .int .u64 K, .slice A ps.length c] 26)).alloc (by simp) (.cells #[.int .i64 p.1, .int .u64 p.2] 37)).alloc (by simp; omega) (.cells #[.int .i64 T, .int .i64 N, .int .u64 K, .slice A ps.length c, .slice M ms.length cm, .slice D cs.length cd] 77))
  have K2 := Lib.hid ((Blk.new_at (w.alloc (.cells #[.int .i64 T, .int .i64 N, .int .u64 K, .slice A ps.length c] 26)) 37 #[.int .i64 p.1, .int .u64 p.2] (g := w.heap.size + 1) (by simp)).alloc (.cells #[.int .i64 T, .int .i64 N, .int .u64 K, .slice A ps.length c, .slice M ms.length cm, .slice D cs.length cd] 77))
  have K3 := Lib.hid (Blk.new_at ((w.alloc (.cells #[.int .i64 T, .int .i64 N, .int .u64 K, .slice A ps.length c] 26)).alloc (.cells #[.int .i64 p.1, .int .u64 p.2] 37)) 77 #[.int .i64 T, .int .i64 N, .int .u64 K, .slice A ps.length c, .slice M ms.length cm, .slice D cs.length cd] (g := w.heap.size + 2) (by simp))
  have HSP := Lib.hid (hsp.on D0.out)
  have HSM := Lib.hid (hsm.on D0.out)
  have HSC := Lib.hid (hsc.on D0.out)
  have P1 := Lib.hid (fun A4 c4 W h1 h2 h3 h4 => head_first T N K A c ps hp M cm ms hm D cd cs hc A4 c4 W h1 h2 h3 h4)
  have P2 := Lib.hid (fun W h1 h2 => chal_any T N K A ps.length c M cm ms D cd cs hc hm W h1 h2)
  have P3 := Lib.hid (fun hcr hco E ce W h1 h2 h3 => wrong_any T N K A c ps hp M ms.length cm D cd cs hc (chalF K ms cs) hcr hco E 1 ce [p] rfl (by omega) (fun q hq => by
    rw [List.mem_singleton] at hq
    subst hq
    exact ⟨(inferInstance : IsU q.2).1, (inferInstance : IsU q.2).2⟩) W h1 h2 h3)
  simp only [wrong_one] at P3
  unfold crewV
  unfold roundV at P1 P2 P3
  have HC1 := Lib.hid (fun (h : headF T N K ps cs = 0) => (show cpartF T N K ps ms cs p = partF (chalF K ms cs) ps cs p from if_pos h))
  have HC2 := Lib.hid (fun (h : headF T N K ps cs ≠ 0) => (show cpartF T N K ps ms cs p = headF T N K ps cs from if_neg h))
  have HZ := Lib.hid (fun (h : headF T N K ps cs = 0) => headF_zero h)
  clear hsp hsm hsc hp hm hc
  generalize headF T N K ps cs = hd at *
  generalize partF (chalF K ms cs) ps cs p = pf at *
  generalize cpartF T N K ps ms cs p = cp at *
  generalize chalF K ms cs = ch at *
  go_enter Tryz.func24, Tryz.ntmps24
  go_wp2_with fail
  have B2 := Lib.hid (fun cs' => (Below.refl (((w.alloc (.cells #[.int .i64 T, .int .i64 N, .int .u64 K, .slice A ps.length c] 26)).alloc (.cells #[.int .i64 p.1, .int .u64 p.2] 37)).alloc (.cells #[.int .i64 T, .int .i64 N, .int .u64 K, .slice A ps.length c, .slice M ms.length cm, .slice D cs.length cd] 77)).heap.size _).alloc (Nat.le_refl _) (.cells cs' 68))
  refine (P1.out _ _ _ (HSP.out.on (B2.out _)) (HSM.out.on (B2.out _)) (HSC.out.on (B2.out _)) (chks_at (Blk.new_at _ _ _ (by simp)) _ rfl)).mono ?_; rintro _ w1 ⟨rfl, b⟩
  have b' := below_on (B2.out _) b
  have B1 := Lib.hid (below_on D0.out b')
  have HSP1 := Lib.hid (HSP.out.on b')
  have HSM1 := Lib.hid (HSM.out.on b')
  have HSC1 := Lib.hid (HSC.out.on b')
  have k2 := K2.out.below b' K2.out.lt
  have k3 := K3.out.below b' K3.out.lt
  have a0 := k2.cell 0
  have a1 := k2.cell 1
  have b0 := k3.cell 0
  have b1 := k3.cell 1
  have b2 := k3.cell 2
  have b3 := k3.cell 3
  have b4 := k3.cell 4
  have b5 := k3.cell 5
  have hz1 : w.heap.size + 1 < w1.heap.size := k2.lt
  have hz2 : w.heap.size + 2 < w1.heap.size := k3.lt
  clear b b' k2 k3 K2 K3 HSP HSM HSC D0 B2
  by_cases hh : hd = 0
  · subst hh
    have hz := HZ.out rfl
    have HE := Lib.hid (HC1.out rfl)
    have P3' := Lib.hid (P3.out hz.1.1 hz.2.1)
    clear hz HZ HC1 HC2 P3 P1
    go_wp2_with fail
    have hW : Below w1.heap.size w1 w1.drew := (Below.refl w1.heap.size w1).drew
    go_cut [8] (fun s8 wx => s8 = .int .i64 pf ∧ Below w1.heap.size w1 wx)
    case first =>
      go_region_held_law (fun w' => (w'.cell? ⟨w.heap.size + 1, 0, none⟩ = some (.int .i64 p.1) ∧ w'.cell? ⟨w.heap.size + 1, 1, none⟩ = some (.int .u64 p.2)) ∧ w'.cell? ⟨w.heap.size + 2, 0, none⟩ = some (.int .i64 T) ∧ w'.cell? ⟨w.heap.size + 2, 1, none⟩ = some (.int .i64 N) ∧ w'.cell? ⟨w.heap.size + 2, 2, none⟩ = some (.int .u64 K) ∧ w'.cell? ⟨w.heap.size + 2, 3, none⟩ = some (.slice A ps.length c) ∧ w'.cell? ⟨w.heap.size + 2, 4, none⟩ = some (.slice M ms.length cm) ∧ w'.cell? ⟨w.heap.size + 2, 5, none⟩ = some (.slice D cs.length cd)) (first | exact ⟨⟨by assumption, by assumption⟩, by assumption, by assumption, by assumption, by assumption, by assumption, by assumption⟩ | go_keep)
        (first
          | (go_at_call 57; refine (P2.out _ (HSM1.out.on (by first | exact hW | exact hW.alloc hW.size _)) (HSC1.out.on (by first | exact hW | exact hW.alloc hW.size _))).mono ?_; rintro _ w5 ⟨rfl, bb⟩; (first | (have HBK := Lib.hid (show Blk w5 w1.heap.size 37 (cells2 [p]).toArray from (Blk.new_at w1.drew 37 (cells2 [p]).toArray rfl).below bb (by simp))) | skip); have hW := below_on (by first | exact hW | exact hW.alloc hW.size _) bb; have c0 := (hW.cell (p := ⟨w.heap.size + 1, 0, none⟩) hz1).trans a0; have c1 := (hW.cell (p := ⟨w.heap.size + 1, 1, none⟩) hz1).trans a1; have d0 := (hW.cell (p := ⟨w.heap.size + 2, 0, none⟩) hz2).trans b0; have d1 := (hW.cell (p := ⟨w.heap.size + 2, 1, none⟩) hz2).trans b1; have d2 := (hW.cell (p := ⟨w.heap.size + 2, 2, none⟩) hz2).trans b2; have d3 := (hW.cell (p := ⟨w.heap.size + 2, 3, none⟩) hz2).trans b3; have d4 := (hW.cell (p := ⟨w.heap.size + 2, 4, none⟩) hz2).trans b4; have d5 := (hW.cell (p := ⟨w.heap.size + 2, 5, none⟩) hz2).trans b5)
          | (go_at_call 64; refine (P3'.out _ _ _ (HSC1.out.on (by first | exact hW | exact hW.alloc hW.size _)) (HSP1.out.on (by first | exact hW | exact hW.alloc hW.size _)) (by first | exact ss_blk (l := [p]) (Blk.new_at _ _ _ rfl) | exact ss_blk HBK.out)).mono ?_; rintro _ w6 ⟨rfl, bb⟩; have hW := below_on (by first | exact hW | exact hW.alloc hW.size _) bb; have c0 := (hW.cell (p := ⟨w.heap.size + 1, 0, none⟩) hz1).trans a0; have c1 := (hW.cell (p := ⟨w.heap.size + 1, 1, none⟩) hz1).trans a1; have d0 := (hW.cell (p := ⟨w.heap.size + 2, 0, none⟩) hz2).trans b0; have d1 := (hW.cell (p := ⟨w.heap.size + 2, 1, none⟩) hz2).trans b1; have d2 := (hW.cell (p := ⟨w.heap.size + 2, 2, none⟩) hz2).trans b2; have d3 := (hW.cell (p := ⟨w.heap.size + 2, 3, none⟩) hz2).trans b3; have d4 := (hW.cell (p := ⟨w.heap.size + 2, 4, none⟩) hz2).trans b4; have d5 := (hW.cell (p := ⟨w.heap.size + 2, 5, none⟩) hz2).trans b5))
      all_goals
        clear c0 c1 d0 d1 d2 d3 d4 d5 a0 a1 b0 b1 b2 b3 b4 b5
        go_wp2_with fail
        go_meet
        exact ⟨rfl, hW⟩
    case rest =>
      obtain ⟨rfl, hX⟩ := hcut
      have HX := Lib.hid (B1.out.trans (hX.mono B1.out.size))
      clear hX hW
      go_wp2_with fail
      go_ret
      exact ⟨by rw [HE.out]; rfl, HX.out⟩
  · have hq : (hd != 0) = true := by simpa using hh
    have HE := Lib.hid (HC2.out hh)
    clear hh HZ HC1 HC2
    go_wp2_with fail
    go_ret
    exact ⟨by rw [HE.out]; rfl, B1.out⟩
end Go.Proofs.YtlannmedefjfhaaGreat

/- What package quorum combines. -/
namespace Go.Proofs.YtlannmedefjfhaaGreat
open Go.ChangeShapes Go.WideShapes Go.ChangeAt Go.RowKit Gs
set_option linter.unusedVariables false

/-- What is combined. -/
noncomputable def combS (T N K : Int) (ps : List (Int × Int)) (ms : List Int) (cs l : List (Int × Int)) : Int × Int := if combF T N K ps ms cs l = 0 then (chalF K ms cs, rsum (l.map Prod.snd)) else (0, 0)
theorem rsum_take (l : List (Int × Int)) (k : Nat) (h : k < l.length) : rsum ((l.map Prod.snd).take (k + 1)) = radd (rsum ((l.map Prod.snd).take k)) l[k].2 := by
  unfold rsum
  rw [List.take_succ_eq_append_getElem (by simpa using h), List.foldl_append]
  simp

set_option maxRecDepth 100000 in
set_option maxHeartbeats 8000000 in
theorem Combine_any (T N K : Int) [IsU K] (A : Option Addr) (c : Nat) (ps : List (Int × Int)) (hp : ShFix c ps) (M : Option Addr) (cm : Nat) (ms : List Int) (hm : ByFix cm ms) (D : Option Addr) (cd : Nat) (cs : List (Int × Int)) (hc : ShFix cd cs) (E : Option Addr) (ce : Nat) (l : List (Int × Int)) (hl : ShFix ce l) (w : World) (hsp : SS w w.heap.size A ps) (hsm : SI w w.heap.size .u8 M ms) (hsc : SS w w.heap.size D cs) (hsl : SS w w.heap.size E l) :
    Calls Tryz.prog 26 #[crewV T N K A ps.length c, .slice M ms.length cm, .slice D cs.length cd, .slice E l.length ce] w fun e w' => e = .returned (.tuple #[.agg #[.int .u64 (combS T N K ps ms cs l).1, .int .u64 (combS T N K ps ms cs l).2], .int .i64 (combF T N K ps ms cs l)]) ∧ Below w.heap.size w w' := by
  have D0 := Lib.hid ((((Below.refl w.heap.size w).alloc (Nat.le_refl _) (.cells #[.int .i64 T, .int .i64 N, .int .u64 K, .slice A ps.length c] 26)).alloc (by simp) (.cells #[.int .u64 0, .int .u64 0] 45)).alloc (by simp; omega) (.cells #[.int .i64 T, .int .i64 N, .int .u64 K, .slice A ps.length c, .slice M ms.length cm, .slice D cs.length cd] 77))
  have K2 := Lib.hid ((Blk.new_at (w.alloc (.cells #[.int .i64 T, .int .i64 N, .int .u64 K, .slice A ps.length c] 26)) 45 #[.int .u64 0, .int .u64 0] (g := w.heap.size + 1) (by simp)).alloc (.cells #[.int .i64 T, .int .i64 N, .int .u64 K, .slice A ps.length c, .slice M ms.length cm, .slice D cs.length cd] 77))
  have K3 := Lib.hid (Blk.new_at ((w.alloc (.cells #[.int .i64 T, .int .i64 N, .int .u64 K, .slice A ps.length c] 26)).alloc (.cells #[.int .u64 0, .int .u64 0] 45)) 77 #[.int .i64 T, .int .i64 N, .int .u64 K, .slice A ps.length c, .slice M ms.length cm, .slice D cs.length cd] (g := w.heap.size + 2) (by simp))
  have HSP := Lib.hid (hsp.on D0.out)
  have HSM := Lib.hid (hsm.on D0.out)
  have HSC := Lib.hid (hsc.on D0.out)
  have HSL := Lib.hid (hsl.on D0.out)
  have P1 := Lib.hid (fun A4 c4 W h1 h2 h3 h4 => head_first T N K A c ps hp M cm ms hm D cd cs hc A4 c4 W h1 h2 h3 h4)
  have P2 := Lib.hid (fun W h1 h2 => chal_any T N K A ps.length c M cm ms D cd cs hc hm W h1 h2)
  have P3 := Lib.hid (fun hcr hco W h1 h2 h3 => wrong_any T N K A c ps hp M ms.length cm D cd cs hc (chalF K ms cs) hcr hco E l.length ce l rfl hl.len hl.u W h1 h2 h3)
  have P4 := Lib.hid (fun W h => each_ids E l.length ce l rfl hl.len W h)
  have P5 := Lib.hid (fun W h => each_ids D cs.length cd cs rfl hc.len W h)
  have hJl : (l.map Prod.fst).length ≤ 1048576 := by have := hl.len; simpa using this
  have P6 := Lib.hid (fun A A' c c' W h h' => equal_int A A' (l.map Prod.fst).length (cs.map Prod.fst).length c c' (l.map Prod.fst) (cs.map Prod.fst) rfl rfl hJl W h h')
  have HU := Lib.hid hl.u
  have hll := hl.len
  unfold crewV
  unfold roundV at P1 P2 P3
  have HC0 := Lib.hid (fun (h : headF T N K ps cs ≠ 0) => (show combF T N K ps ms cs l = headF T N K ps cs from if_neg h))
  have HC1 := Lib.hid (fun (h : headF T N K ps cs = 0) (g : l.map Prod.fst ≠ cs.map Prod.fst) => (show combF T N K ps ms cs l = 1 by unfold combF; rw [if_pos h, if_neg g]))
  have HC2 := Lib.hid (fun (h : headF T N K ps cs = 0) (g : l.map Prod.fst = cs.map Prod.fst) => (show combF T N K ps ms cs l = wrongF (chalF K ms cs) ps cs l by unfold combF; rw [if_pos h, if_pos g]))
  have HS1 := Lib.hid (fun (h : combF T N K ps ms cs l ≠ 0) => (show combS T N K ps ms cs l = (0, 0) from if_neg h))
  have HS2 := Lib.hid (fun (h : combF T N K ps ms cs l = 0) => (show combS T N K ps ms cs l = (chalF K ms cs, rsum (l.map Prod.snd)) from if_pos h))
  have HZ := Lib.hid (fun (h : headF T N K ps cs = 0) => headF_zero h)
  clear hsp hsm hsc hsl hp hm hc hl hJl
  generalize headF T N K ps cs = hd at *
  generalize wrongF (chalF K ms cs) ps cs l = wf at *
  generalize combF T N K ps ms cs l = cf at *
  generalize combS T N K ps ms cs l = sg at *
  generalize chalF K ms cs = ch at *
  generalize l.map Prod.fst = J1 at *
  generalize cs.map Prod.fst = J2 at *
  go_enter Tryz.func26, Tryz.ntmps26
  go_wp2_with fail
  have B2 := Lib.hid (fun cs' => (Below.refl (((w.alloc (.cells #[.int .i64 T, .int .i64 N, .int .u64 K, .slice A ps.length c] 26)).alloc (.cells #[.int .u64 0, .int .u64 0] 45)).alloc (.cells #[.int .i64 T, .int .i64 N, .int .u64 K, .slice A ps.length c, .slice M ms.length cm, .slice D cs.length cd] 77)).heap.size _).alloc (Nat.le_refl _) (.cells cs' 68))
  refine (P1.out _ _ _ (HSP.out.on (B2.out _)) (HSM.out.on (B2.out _)) (HSC.out.on (B2.out _)) (chks_at (Blk.new_at _ _ _ (by simp)) _ rfl)).mono ?_; rintro _ w1 ⟨rfl, b⟩
  have b' := below_on (B2.out _) b
  have B1 := Lib.hid (below_on D0.out b')
  have HSP1 := Lib.hid (HSP.out.on b')
  have HSM1 := Lib.hid (HSM.out.on b')
  have HSC1 := Lib.hid (HSC.out.on b')
  have HSL1 := Lib.hid (HSL.out.on b')
  have K21 := Lib.hid (K2.out.below b' K2.out.lt)
  have K31 := Lib.hid (K3.out.below b' K3.out.lt)
  clear b b' K2 K3 HSP HSM HSC HSL D0 B2
  by_cases hh : hd = 0
  · subst hh
    have hz := HZ.out rfl
    have P3' := Lib.hid (P3.out hz.1.1 hz.2.1)
    have HC1' := Lib.hid (HC1.out rfl)
    have HC2' := Lib.hid (HC2.out rfl)
    clear HC1 HC2
    clear hz HZ P3 P1 HC0
    go_wp2_with fail
    refine (P4.out _ HSL1.out).mono ?_; rintro _ w2 ⟨v2, rfl, ho, b⟩
    obtain ⟨A2, c2, rfl, q1, q2, hs2, _⟩ := own_sliceI ho
    have HI2 := Lib.hid hs2
    have B2 := Lib.hid b
    clear ho hs2 b q1 q2
    go_wp2_with fail
    refine (P5.out _ (HSC1.out.on B2.out)).mono ?_; rintro _ w3 ⟨v3, rfl, ho, b⟩
    obtain ⟨A3, c3, rfl, q1, q2, hs3, _⟩ := own_sliceI ho
    have HI3 := Lib.hid hs3
    have HI2' := Lib.hid (HI2.out.on b)
    have B3 := Lib.hid (below_on B2.out b)
    clear ho hs3 b q1 q2 HI2
    go_wp2_with fail
    refine (P6.out A2 A3 c2 c3 _ HI2'.out HI3.out).mono ?_; rintro _ w4 ⟨rfl, b⟩
    have B4 := Lib.hid (below_on B3.out b)
    have K24 := Lib.hid (K21.out.below B4.out K21.out.lt)
    clear b HI2' HI3 P4 P5 P6
    by_cases hi : J1 = J2
    · have hdq : decide (J1 = J2) = true := decide_eq_true hi
      have HCF := Lib.hid (HC2'.out hi)
      clear HC1' HC2' hi
      rw [hdq]
      clear hdq
      have k34 := K31.out.below B4.out K31.out.lt
      have b0 := k34.cell 0
      have b1 := k34.cell 1
      have b2 := k34.cell 2
      have b3 := k34.cell 3
      have b4 := k34.cell 4
      have b5 := k34.cell 5
      go_wp2_with fail
      refine (P2.out _ (HSM1.out.on B4.out) (HSC1.out.on B4.out)).mono ?_; rintro _ w5 ⟨rfl, b⟩
      have K35 := Lib.hid (k34.below b k34.lt)
      have B5 := Lib.hid (below_on B4.out b)
      have K25 := Lib.hid (K24.out.below b K24.out.lt)
      clear b k34 b0 b1 b2 b3 b4 b5 K24 K31
      have b0 := K35.out.cell 0
      have b1 := K35.out.cell 1
      have b2 := K35.out.cell 2
      have b3 := K35.out.cell 3
      have b4 := K35.out.cell 4
      have b5 := K35.out.cell 5
      go_wp2_with fail
      refine (P3'.out _ (HSC1.out.on B5.out) (HSP1.out.on B5.out) (HSL1.out.on B5.out)).mono ?_; rintro _ w6 ⟨rfl, b⟩
      have B6 := Lib.hid (below_on B5.out b)
      have K26 := Lib.hid (K25.out.below b K25.out.lt)
      clear b b0 b1 b2 b3 b4 b5 K25 K35
      by_cases hw : wf = 0
      · subst hw
        have HSG := Lib.hid (HS2.out HCF.out)
        clear HS1 HS2
        go_wp2_with fail
        have hz6 := K26.out.lt
        go_loopw [14, 52] (fun o i wr => ∃ k : Nat, k ≤ l.length ∧ i = .int .i64 k ∧ o = .int .u64 (rsum ((l.map Prod.snd).take k)) ∧ Below w6.heap.size w6 wr) (fun _ i _ => l.length - (intOf i).toNat)
        case atStart => exact ⟨0, by omega, rfl, rfl, Below.refl _ _⟩
        case round =>
          obtain ⟨k, hk, rfl, rfl, hb⟩ := hrel
          have HB := Lib.hid hb
          have hz := hb.size
          clear hb
          by_cases hlt : k < l.length
          · obtain ⟨ad, rfl, had, c0, c1⟩ := ((HSL1.out.on B6.out).below HB.out) k hlt
            have hx := HU.out l[k] (List.getElem_mem hlt)
            haveI : IsU l[k].2 := ⟨hx.1, hx.2⟩
            have P := Lib.hid (AddR_r (rsum ((l.map Prod.snd).take k)) l[k].2)
            have HT := Lib.hid (rsum_take l k hlt)
            have HB2 := Lib.hid (HB.out.alloc hz (.cells #[.int .i64 l[k].1, .int .u64 l[k].2] 37))
            clear hx
            generalize l[k].1 = y1 at *
            generalize l[k].2 = y2 at *
            go_wp2_with fail
            refine (P.out _).mono ?_; rintro _ w8 ⟨rfl, rfl⟩
            go_wp2_with fail
            go_roundw
            case rel => exact ⟨k + 1, by omega, by go_num, by rw [HT.out], HB2.out⟩
            case measure => simp [intOf]; omega
          · obtain rfl : k = l.length := by omega
            have HA := Lib.hid (show (l.map Prod.snd).take l.length = l.map Prod.snd from List.take_of_length_le (by simp))
            rw [HA.out]
            have K27 := Lib.hid (K26.out.below HB.out K26.out.lt)
            obtain ⟨⟨g0, g1⟩, f0, f1⟩ := K27.out.facts2
            have BX := Lib.hid (B1.out.trans (((B6.out.trans (HB.out.mono B6.out.size))).mono B1.out.size))
            go_wp2_with fail
            have h := (K27.out.set2 (x' := .int .u64 ch) (y' := .int .u64 (rsum (l.map Prod.snd)))).facts2.1
            rw [HSG.out, HCF.out]
            refine bodyPost_ret (v := .tuple #[.agg #[.int .u64 ch, .int .u64 (rsum (l.map Prod.snd))], .int .i64 0]) (by simp [results, Tryz.results26, go_sem, h.1, h.2]) rfl ⟨rfl, ?_⟩
            exact below_setR (below_setR BX.out (by omega) _) (by omega) _
      · have hq : (wf != 0) = true := by simpa using hw
        have HSG := Lib.hid (HS1.out (fun h => hw (HCF.out.symm.trans h)))
        clear HS1 HS2 hw
        obtain ⟨⟨g0, g1⟩, f0, f1⟩ := K26.out.facts2
        have BX := Lib.hid (B1.out.trans (B6.out.mono B1.out.size))
        go_wp2_with fail
        have h := (K26.out.set2 (x' := .int .u64 0) (y' := .int .u64 0)).facts2.1
        rw [HSG.out, HCF.out]
        refine bodyPost_ret (v := .tuple #[.agg #[.int .u64 0, .int .u64 0], .int .i64 wf]) (by simp [results, Tryz.results26, go_sem, h.1, h.2]) rfl ⟨rfl, ?_⟩
        exact below_setR (below_setR BX.out (by omega) _) (by omega) _
    · have hdq : decide (J1 = J2) = false := decide_eq_false hi
      have HCF := Lib.hid (HC1'.out hi)
      have HSG := Lib.hid (HS1.out (by rw [HCF.out]; omega))
      clear HC1' HC2' hi HS1 HS2
      rw [hdq]
      clear hdq
      obtain ⟨⟨g0, g1⟩, f0, f1⟩ := K24.out.facts2
      have BX := Lib.hid (B1.out.trans (B4.out.mono B1.out.size))
      go_wp2_with fail
      have h := (K24.out.set2 (x' := .int .u64 0) (y' := .int .u64 0)).facts2.1
      rw [HSG.out, HCF.out]
      refine bodyPost_ret (v := .tuple #[.agg #[.int .u64 0, .int .u64 0], .int .i64 1]) (by simp [results, Tryz.results26, go_sem, h.1, h.2]) rfl ⟨rfl, ?_⟩
      exact below_setR (below_setR BX.out (by omega) _) (by omega) _
  · have hq : (hd != 0) = true := by simpa using hh
    have HCF := Lib.hid (HC0.out hh)
    have HSG := Lib.hid (HS1.out (by rw [HCF.out]; exact hh))
    clear hh HZ HC0 HC1 HC2 HS1 HS2
    obtain ⟨⟨g0, g1⟩, f0, f1⟩ := K21.out.facts2
    go_wp2_with fail
    have h := (K21.out.set2 (x' := .int .u64 0) (y' := .int .u64 0)).facts2.1
    rw [HSG.out, HCF.out]
    refine bodyPost_ret (v := .tuple #[.agg #[.int .u64 0, .int .u64 0], .int .i64 hd]) (by simp [results, Tryz.results26, go_sem, h.1, h.2]) rfl ⟨rfl, ?_⟩
    exact below_setR (below_setR B1.out (by omega) _) (by omega) _
end Go.Proofs.YtlannmedefjfhaaGreat

/- A signer's part. -/
namespace Go.Proofs.YtlannmedefjfhaaGreat
open Go.ChangeShapes Go.WideShapes Go.ChangeAt Go.RowKit Gs
set_option linter.unusedVariables false

/-- What a signer tells. -/
noncomputable def spartV (T N K : Int) (ps : List (Int × Int)) (x : Int × Int) (n : Int) (ms : List Int) (cs : List (Int × Int)) : Int × Int := if spartF T N K ps x n ms cs = 0 then (x.1, qans K x n ms cs) else (0, 0)

theorem ahead_first (T N K : Int) [IsU K] (A : Option Addr) (c : Nat) (ps : List (Int × Int)) (hp : ShFix c ps) (M : Option Addr) (cm : Nat) (ms : List Int) (hm : ByFix cm ms) (D : Option Addr) (cd : Nat) (cs : List (Int × Int)) (hc : ShFix cd cs) (x : Int × Int) (n : Int) (A4 : Option Addr) (c4 : Nat) (w : World) (hsp : SS w w.heap.size A ps) (hsm : SI w w.heap.size .u8 M ms) (hsc : SS w w.heap.size D cs) (hk : ∀ j (hj : j < ([⟨52, #[roundV T N K A ps.length c M ms.length cm D cs.length cd]⟩, ⟨48, #[.agg #[.int .i64 x.1, .int .u64 x.2, .int .i64 n, .slice M ms.length cm]]⟩, ⟨53, #[roundV T N K A ps.length c M ms.length cm D cs.length cd]⟩, ⟨54, #[roundV T N K A ps.length c M ms.length cm D cs.length cd]⟩] : List Chk).length), ∃ ad, A4 = some ad ∧ ad.block < w.heap.size ∧ w.cell? (ad.add j) = some ([⟨52, #[roundV T N K A ps.length c M ms.length cm D cs.length cd]⟩, ⟨48, #[.agg #[.int .i64 x.1, .int .u64 x.2, .int .i64 n, .slice M ms.length cm]]⟩, ⟨53, #[roundV T N K A ps.length c M ms.length cm D cs.length cd]⟩, ⟨54, #[roundV T N K A ps.length c M ms.length cm D cs.length cd]⟩] : List Chk)[j].val) :
    Calls Tryz.prog 41 #[.slice A4 4 c4] w fun e w' => e = .returned (.int .i64 (aheadF T N K ps x n cs)) ∧ Below w.heap.size w w' :=
  first_any A4 c4 [⟨52, #[roundV T N K A ps.length c M ms.length cm D cs.length cd]⟩, ⟨48, #[.agg #[.int .i64 x.1, .int .u64 x.2, .int .i64 n, .slice M ms.length cm]]⟩, ⟨53, #[roundV T N K A ps.length c M ms.length cm D cs.length cd]⟩, ⟨54, #[roundV T N K A ps.length c M ms.length cm D cs.length cd]⟩] [crewF T N K ps, signerF x n, commF N cs, enoughF T cs] rfl (by simp) w hk
    (fun j h args w => by
      rcases j with _ | _ | _ | _ | j
      · exact runs_in Tryz.func52 (by kernel_rfl) rfl args w
      · exact runs_in Tryz.func48 (by kernel_rfl) rfl args w
      · exact runs_in Tryz.func53 (by kernel_rfl) rfl args w
      · exact runs_in Tryz.func54 (by kernel_rfl) rfl args w
      · exact absurd h (by simp <;> omega))
    (fun j h g hz W' hW' => by
      rcases j with _ | _ | _ | _ | j
      · exact crewMay_any T N K A c ps hp M ms.length cm D cs.length cd W' (hsp.on hW')
      · by_cases hs : SignerOk x n
        · have h1 : signerF x n = 0 := if_pos hs
          have h2 := tmay_ok x n M ms.length cm hs W'
          refine h2.mono fun r w' ⟨e1, e2⟩ => ⟨?_, e2⟩
          show r = .returned (.int .i64 (signerF x n))
          rw [h1]; exact e1
        · have h1 : signerF x n = 1 := if_neg hs
          have h2 := tmay_no x n M ms.length cm hs W'
          refine h2.mono fun r w' ⟨e1, e2⟩ => ⟨?_, e2⟩
          show r = .returned (.int .i64 (signerF x n))
          rw [h1]; exact e1
      · exact commits_any T N K A ps.length c M ms.length cm D cd cs hc W' (hsc.on hW')
      · exact enough_any T N K A ps.length c M ms.length cm D cd cs hc.len W'
      · exact absurd h (by simp <;> omega))

set_option maxRecDepth 100000 in
set_option maxHeartbeats 4000000 in
theorem Part_any (T N K : Int) [IsU K] (A : Option Addr) (c : Nat) (ps : List (Int × Int)) (hp : ShFix c ps) (M : Option Addr) (cm : Nat) (ms : List Int) (hm : ByFix cm ms) (D : Option Addr) (cd : Nat) (cs : List (Int × Int)) (hc : ShFix cd cs) (x : Int × Int) [IsU x.2] (n : Int) (w : World) (hsp : SS w w.heap.size A ps) (hsm : SI w w.heap.size .u8 M ms) (hsc : SS w w.heap.size D cs) :
    Calls Tryz.prog 22 #[crewV T N K A ps.length c, .agg #[.int .i64 x.1, .int .u64 x.2], .int .i64 n, .slice M ms.length cm, .slice D cs.length cd] w fun e w' => e = .returned (.tuple #[.agg #[.int .i64 (spartV T N K ps x n ms cs).1, .int .u64 (spartV T N K ps x n ms cs).2], .int .i64 (spartF T N K ps x n ms cs)]) ∧ Below w.heap.size w w' := by
  have D0 := Lib.hid ((((Below.refl w.heap.size w).alloc (Nat.le_refl _) (.cells #[.int .i64 T, .int .i64 N, .int .u64 K, .slice A ps.length c] 26)).alloc (by simp) (.cells #[.int .i64 x.1, .int .u64 x.2] 37)).alloc (by simp; omega) (.cells #[.int .i64 0, .int .u64 0] 37))
  have K1 := (((Blk.new w 26 #[.int .i64 T, .int .i64 N, .int .u64 K, .slice A ps.length c]).alloc (.cells #[.int .i64 x.1, .int .u64 x.2] 37)).alloc (.cells #[.int .i64 0, .int .u64 0] 37))
  have K2 := ((Blk.new_at (w.alloc (.cells #[.int .i64 T, .int .i64 N, .int .u64 K, .slice A ps.length c] 26)) 37 #[.int .i64 x.1, .int .u64 x.2] (g := w.heap.size + 1) (by simp)).alloc (.cells #[.int .i64 0, .int .u64 0] 37))
  have K3 := (Blk.new_at ((w.alloc (.cells #[.int .i64 T, .int .i64 N, .int .u64 K, .slice A ps.length c] 26)).alloc (.cells #[.int .i64 x.1, .int .u64 x.2] 37)) 37 #[.int .i64 0, .int .u64 0] (g := w.heap.size + 2) (by simp))
  have HSP := Lib.hid hsp
  have HSM := Lib.hid hsm
  have HSC := Lib.hid hsc
  have P1 := Lib.hid (fun A4 c4 W h1 h2 h3 h4 => ahead_first T N K A c ps hp M cm ms hm D cd cs hc x n A4 c4 W h1 h2 h3 h4)
  have P2 := Lib.hid (fun W h1 h2 => chal_any T N K A ps.length c M cm ms D cd cs hc hm W h1 h2)
  have P3 := Lib.hid (fun hok W hW => qnonce_any x n hok M cm ms hm.u hm.len hm.cap hm.max W hW)
  have P4 := Lib.hid (Base_q (qnonce x n ms))
  have P5 := Lib.hid (fun W h => contains_share D cs.length cd cs rfl hc.len (qcom x n ms) W h)
  unfold qcom at P5
  have P6 := Lib.hid (fun hr hi W h => qweight D cs.length cd cs rfl (cs.map Prod.fst) rfl hr x.1 hi W h)
  have P7 := Lib.hid (MulR_r (chalF K ms cs) (wat (cs.map Prod.fst) x.1 0))
  have P8 := Lib.hid (MulR_r (rmul (chalF K ms cs) (wat (cs.map Prod.fst) x.1 0)) x.2)
  have P9 := Lib.hid (fun W => (AddR_r (qnonce x n ms) (rmul (rmul (chalF K ms cs) (wat (cs.map Prod.fst) x.1 0)) x.2) W).mono fun r w' h => (⟨h.1, h.2 ▸ Below.refl W.heap.size W⟩ : r = .returned (.int .u64 (radd (qnonce x n ms) (rmul (rmul (chalF K ms cs) (wat (cs.map Prod.fst) x.1 0)) x.2))) ∧ Below W.heap.size W w'))
  unfold crewV
  unfold roundV at P1 P2
  have HC0 := Lib.hid (fun (h : aheadF T N K ps x n cs ≠ 0) => (show spartF T N K ps x n ms cs = aheadF T N K ps x n cs ∧ spartV T N K ps x n ms cs = (0, 0) from by
    have e : spartF T N K ps x n ms cs = aheadF T N K ps x n cs := if_neg h
    exact ⟨e, if_neg (by rw [e]; exact h)⟩))
  have HC1 := Lib.hid (fun (h : aheadF T N K ps x n cs = 0) (g : ¬ (x.1, qpow 4 (qnonce x n ms)) ∈ cs) => (show spartF T N K ps x n ms cs = 60 ∧ spartV T N K ps x n ms cs = (0, 0) from by
    have e : spartF T N K ps x n ms cs = 60 := by unfold spartF; rw [if_pos h]; exact if_neg g
    exact ⟨e, if_neg (by rw [e]; omega)⟩))
  have HC2 := Lib.hid (fun (h : aheadF T N K ps x n cs = 0) (g : (x.1, qpow 4 (qnonce x n ms)) ∈ cs) => (show spartF T N K ps x n ms cs = 0 ∧ spartV T N K ps x n ms cs = (x.1, radd (qnonce x n ms) (rmul (rmul (chalF K ms cs) (wat (cs.map Prod.fst) x.1 0)) x.2)) from by
    have e : spartF T N K ps x n ms cs = 0 := by unfold spartF; rw [if_pos h]; exact if_pos g
    exact ⟨e, if_pos e⟩))
  have HZ := Lib.hid (fun (h : aheadF T N K ps x n cs = 0) => aheadF_zero h)
  have HMEM := Lib.hid (fun (g : (x.1, qpow 4 (qnonce x n ms)) ∈ cs) => (show x.1 ∈ cs.map Prod.fst from List.mem_map.2 ⟨_, g, rfl⟩))
  have HRI := Lib.hid (fun (h : CrewOk T N K ps ∧ CommitsOk N cs) (g : (x.1, qpow 4 (qnonce x n ms)) ∈ cs) => (show RightI (cs.map Prod.fst) from commits_right h.2 h.1.2.2.1 (List.length_pos_of_mem g)))
  clear hsp hsm hsc hp hm hc
  generalize aheadF T N K ps x n cs = hd at *
  generalize spartF T N K ps x n ms cs = sf at *
  generalize spartV T N K ps x n ms cs = sv at *
  generalize chalF K ms cs = ch at *
  generalize qnonce x n ms = qn at *
  generalize radd qn (rmul (rmul ch (wat (cs.map Prod.fst) x.1 0)) x.2) = an at *
  generalize rmul (rmul ch (wat (cs.map Prod.fst) x.1 0)) x.2 = m2 at *
  generalize rmul ch (wat (cs.map Prod.fst) x.1 0) = m1 at *
  generalize wat (cs.map Prod.fst) x.1 0 = wi at *
  generalize cs.map Prod.fst = J at *
  generalize qpow 4 qn = z at *
  have k0 := K1.cell 0
  have k1 := K1.cell 1
  have k2 := K1.cell 2
  have k3 := K1.cell 3
  have a0 := K2.cell 0
  have a1 := K2.cell 1
  have HR := Lib.hid K3
  clear K1 K2 K3
  go_enter Tryz.func22, Tryz.ntmps22
  go_wp2_with fail
  refine wp_named (fun W => (W.cell? ⟨w.heap.size, 0, none⟩ = some (.int .i64 T) ∧ W.cell? ⟨w.heap.size, 1, none⟩ = some (.int .i64 N) ∧ W.cell? ⟨w.heap.size, 2, none⟩ = some (.int .u64 K) ∧ W.cell? ⟨w.heap.size, 3, none⟩ = some (.slice A ps.length c)) ∧ (W.cell? ⟨w.heap.size + 1, 0, none⟩ = some (.int .i64 x.1) ∧ W.cell? ⟨w.heap.size + 1, 1, none⟩ = some (.int .u64 x.2)) ∧ Blk W (w.heap.size + 2) 37 #[.int .i64 0, .int .u64 0] ∧ Below w.heap.size w W) ⟨⟨k0, k1, k2, k3⟩, ⟨a0, a1⟩, HR.out, D0.out⟩ ?_
  clear k0 k1 k2 k3 a0 a1 HR D0
  rintro W ⟨⟨k0, k1, k2, k3⟩, ⟨a0, a1⟩, hr, hD⟩
  have hzr := hr.lt
  have D0 := Lib.hid hD
  have HR := Lib.hid hr
  clear hr hD
  have hl0 : w.heap.size < W.heap.size := by omega
  have hl1 : w.heap.size + 1 < W.heap.size := by omega
  go_cut [12, 13] (fun s12 s13 wx => ∃ g12 g13 : Nat, s12 = .pointer (some ⟨g12, 0, none⟩) ∧ s13 = .pointer (some ⟨g13, 0, none⟩) ∧ Blk wx g12 77 #[.int .i64 T, .int .i64 N, .int .u64 K, .slice A ps.length c, .slice M ms.length cm, .slice D cs.length cd] ∧ Blk wx g13 73 #[.int .i64 x.1, .int .u64 x.2, .int .i64 n, .slice M ms.length cm] ∧ Below W.heap.size W wx ∧ W.heap.size ≤ g12 ∧ W.heap.size ≤ g13)
  case first =>
    go_region_held_law (fun w' => (w'.cell? ⟨w.heap.size, 0, none⟩ = some (.int .i64 T) ∧ w'.cell? ⟨w.heap.size, 1, none⟩ = some (.int .i64 N) ∧ w'.cell? ⟨w.heap.size, 2, none⟩ = some (.int .u64 K) ∧ w'.cell? ⟨w.heap.size, 3, none⟩ = some (.slice A ps.length c)) ∧ (w'.cell? ⟨w.heap.size + 1, 0, none⟩ = some (.int .i64 x.1) ∧ w'.cell? ⟨w.heap.size + 1, 1, none⟩ = some (.int .u64 x.2))) (go_keep) (fail)
    all_goals
      go_wp2_with fail
      go_meet
      first
        | exact ⟨W.heap.size, W.heap.size + 1, rfl, rfl, Blk.drew ((Blk.new_at W _ _ rfl).alloc _), Blk.drew (Blk.new_at (W.alloc _) _ _ (by simp)), (((Below.refl W.heap.size W).alloc (Nat.le_refl _) _).alloc (by simp) _).drew, Nat.le_refl _, by omega⟩
        | exact ⟨W.heap.size + 1, W.heap.size, rfl, rfl, Blk.drew (Blk.new_at (W.alloc _) _ _ (by simp)), Blk.drew ((Blk.new_at W _ _ rfl).alloc _), (((Below.refl W.heap.size W).alloc (Nat.le_refl _) _).alloc (by simp) _).drew, by omega, Nat.le_refl _⟩
  case rest =>
    obtain ⟨g12, g13, rfl, rfl, q12, q13, hB, h12, h13⟩ := hcut
    have hzB := hB.size
    have a0 := (hB.cell (p := ⟨w.heap.size + 1, 0, none⟩) hl1).trans a0
    have a1 := (hB.cell (p := ⟨w.heap.size + 1, 1, none⟩) hl1).trans a1
    have HRc := Lib.hid (HR.out.below hB hzr)
    have HWC := Lib.hid (D0.out.trans (hB.mono D0.out.size))
    have HSPc := Lib.hid (HSP.out.on HWC.out)
    have HSMc := Lib.hid (HSM.out.on HWC.out)
    have HSCc := Lib.hid (HSC.out.on HWC.out)
    have K12 := Lib.hid q12
    have K13 := Lib.hid q13
    have r0 := q12.cell 0
    have r1 := q12.cell 1
    have r2 := q12.cell 2
    have r3 := q12.cell 3
    have r4 := q12.cell 4
    have r5 := q12.cell 5
    have t0 := q13.cell 0
    have t1 := q13.cell 1
    have t2 := q13.cell 2
    have t3 := q13.cell 3
    clear hB q12 q13 k0 k1 k2 k3 HSP HSM HSC D0 HR
    go_wp2_with fail
    have B2 := Lib.hid (fun cs' => (Below.refl wc.heap.size wc).alloc (Nat.le_refl _) (.cells cs' 68))
    refine (P1.out _ _ _ (HSPc.out.on (B2.out _)) (HSMc.out.on (B2.out _)) (HSCc.out.on (B2.out _)) (chks_at (Blk.new_at _ _ _ rfl) _ rfl)).mono ?_; rintro _ w1 ⟨rfl, b⟩
    have b' := below_on (B2.out _) b
    have hz1 := b'.size
    have B1 := Lib.hid (HWC.out.trans (b'.mono HWC.out.size))
    have HSM1 := Lib.hid (HSMc.out.on b')
    have HSC1 := Lib.hid (HSCc.out.on b')
    have HR1 := Lib.hid (HRc.out.below b' HRc.out.lt)
    have K12' := Lib.hid (K12.out.below b' K12.out.lt)
    have K13' := K13.out.below b' K13.out.lt
    have a0 := (b'.cell (p := ⟨w.heap.size + 1, 0, none⟩) (by simp only []; omega)).trans a0
    have a1 := (b'.cell (p := ⟨w.heap.size + 1, 1, none⟩) (by simp only []; omega)).trans a1
    have t0 := K13'.cell 0
    have t1 := K13'.cell 1
    have t2 := K13'.cell 2
    have t3 := K13'.cell 3
    clear b b' r0 r1 r2 r3 r4 r5 HWC HSPc HSMc HSCc HRc K12 K13 K13' B2 P1
    by_cases hh : hd = 0
    · subst hh
      have hz := HZ.out rfl
      have HC1' := Lib.hid (HC1.out rfl)
      have HC2' := Lib.hid (HC2.out rfl)
      have P3' := Lib.hid (P3.out hz.2.1)
      have HRI' := Lib.hid (HRI.out ⟨hz.1.1, hz.2.2.1⟩)
      clear HC0 HC1 HC2 P3 HRI HZ hz
      go_wp2_with fail
      refine (P3'.out _ HSM1.out).mono ?_; rintro _ w2 ⟨rfl, b⟩
      have HSM2 := Lib.hid (HSM1.out.on b)
      have HSC2 := Lib.hid (HSC1.out.on b)
      have HR2 := Lib.hid (HR1.out.below b HR1.out.lt)
      have q12 := K12'.out.below b K12'.out.lt
      have HK2 := Lib.hid q12
      have hg2 := q12.lt
      have hz2 := b.size
      have B3 := Lib.hid (below_on B1.out b)
      have a0 := (b.cell (p := ⟨w.heap.size + 1, 0, none⟩) (by simp only []; omega)).trans a0
      have a1 := (b.cell (p := ⟨w.heap.size + 1, 1, none⟩) (by simp only []; omega)).trans a1
      have hl2 : w.heap.size + 1 < w2.heap.size := by omega
      clear b t0 t1 t2 t3 q12 HR1 K12' HSM1 HSC1 B1 P3'
      go_wp2_with fail
      have hW : Below w2.heap.size w2 w2.drew := (Below.refl w2.heap.size w2).drew
      go_cut [48] (fun s48 wx => s48 = .bool (!decide ((x.1, z) ∈ cs)) ∧ Below w2.heap.size w2 wx)
      case first =>
        go_region_held_law (fun w' => w'.cell? ⟨w.heap.size + 1, 0, none⟩ = some (.int .i64 x.1)) (first | assumption | go_keep)
          (first
            | (go_at_call 34; refine (P4.out _).mono ?_; rintro _ w5 ⟨rfl, bb⟩; have hW := below_on hW bb; have c0 := (hW.cell (p := ⟨w.heap.size + 1, 0, none⟩) hl2).trans a0)
            | (go_at_call 55; refine (P5.out _ (HSC2.out.on hW)).mono ?_; rintro _ w6 ⟨rfl, bb⟩; have hW := below_on hW bb; have c0 := (hW.cell (p := ⟨w.heap.size + 1, 0, none⟩) hl2).trans a0))
        all_goals
          clear c0 a0 a1
          go_wp2_with fail
          go_meet
          exact ⟨rfl, hW⟩
      case rest =>
        obtain ⟨rfl, hX⟩ := hcut
        have hz3 := hX.size
        have HSM3 := Lib.hid (HSM2.out.on hX)
        have HSC3 := Lib.hid (HSC2.out.on hX)
        have HR3 := Lib.hid (HR2.out.below hX HR2.out.lt)
        have q12 := HK2.out.below hX HK2.out.lt
        have B4 := Lib.hid (below_on B3.out hX)
        have a0 := (hX.cell (p := ⟨w.heap.size + 1, 0, none⟩) hl2).trans a0
        have a1 := (hX.cell (p := ⟨w.heap.size + 1, 1, none⟩) hl2).trans a1
        have ha1 : w.heap.size + 1 < wc.heap.size := by omega
        have hg3 : g12 < wc.heap.size := by omega
        clear hX hW HK2 HSM2 HSC2 HR2 B3
        by_cases hm : (x.1, z) ∈ cs
        · have HE := Lib.hid (HC2'.out hm)
          have P6' := Lib.hid (P6.out (HRI'.out hm) (HMEM.out hm))
          rw [decide_eq_true hm]
          clear hm HC1' HC2' HMEM HRI' P6
          have b0 := q12.cell 0
          have b1 := q12.cell 1
          have b2 := q12.cell 2
          have b3 := q12.cell 3
          have b4 := q12.cell 4
          have b5 := q12.cell 5
          clear q12
          go_wp2_with fail
          have hW : Below wc.heap.size wc wc.drew := (Below.refl wc.heap.size wc).drew
          go_cut [16] (fun s16 wx => s16 = .int .u64 m2 ∧ Below wc.heap.size wc wx)
          case first =>
            go_region_held_law (fun w' => (w'.cell? ⟨w.heap.size + 1, 0, none⟩ = some (.int .i64 x.1) ∧ w'.cell? ⟨w.heap.size + 1, 1, none⟩ = some (.int .u64 x.2)) ∧ w'.cell? ⟨g12, 0, none⟩ = some (.int .i64 T) ∧ w'.cell? ⟨g12, 1, none⟩ = some (.int .i64 N) ∧ w'.cell? ⟨g12, 2, none⟩ = some (.int .u64 K) ∧ w'.cell? ⟨g12, 3, none⟩ = some (.slice A ps.length c) ∧ w'.cell? ⟨g12, 4, none⟩ = some (.slice M ms.length cm) ∧ w'.cell? ⟨g12, 5, none⟩ = some (.slice D cs.length cd)) (first | exact ⟨⟨by assumption, by assumption⟩, by assumption, by assumption, by assumption, by assumption, by assumption, by assumption⟩ | go_keep)
              (first
                | (go_at_call 57; refine (P2.out _ (HSM3.out.on hW) (HSC3.out.on hW)).mono ?_; rintro _ w5 ⟨rfl, bb⟩; have hW := below_on hW bb; have d0 := (hW.cell (p := ⟨g12, 0, none⟩) hg3).trans b0; have d1 := (hW.cell (p := ⟨g12, 1, none⟩) hg3).trans b1; have d2 := (hW.cell (p := ⟨g12, 2, none⟩) hg3).trans b2; have d3 := (hW.cell (p := ⟨g12, 3, none⟩) hg3).trans b3; have d4 := (hW.cell (p := ⟨g12, 4, none⟩) hg3).trans b4; have d5 := (hW.cell (p := ⟨g12, 5, none⟩) hg3).trans b5; have c0 := (hW.cell (p := ⟨w.heap.size + 1, 0, none⟩) ha1).trans a0; have c1 := (hW.cell (p := ⟨w.heap.size + 1, 1, none⟩) ha1).trans a1)
                | (go_at_call 58; refine (P6'.out _ (HSC3.out.on hW)).mono ?_; rintro _ w6 ⟨rfl, bb⟩; have hW := below_on hW bb; have d0 := (hW.cell (p := ⟨g12, 0, none⟩) hg3).trans b0; have d1 := (hW.cell (p := ⟨g12, 1, none⟩) hg3).trans b1; have d2 := (hW.cell (p := ⟨g12, 2, none⟩) hg3).trans b2; have d3 := (hW.cell (p := ⟨g12, 3, none⟩) hg3).trans b3; have d4 := (hW.cell (p := ⟨g12, 4, none⟩) hg3).trans b4; have d5 := (hW.cell (p := ⟨g12, 5, none⟩) hg3).trans b5; have c0 := (hW.cell (p := ⟨w.heap.size + 1, 0, none⟩) ha1).trans a0; have c1 := (hW.cell (p := ⟨w.heap.size + 1, 1, none⟩) ha1).trans a1)
                | (go_at_call_of 56 (Value.int IntKind.u64 ch); refine (P7.out _).mono ?_; rintro _ w7 ⟨rfl, bb⟩; have hW := below_on hW bb; have d0 := (hW.cell (p := ⟨g12, 0, none⟩) hg3).trans b0; have d1 := (hW.cell (p := ⟨g12, 1, none⟩) hg3).trans b1; have d2 := (hW.cell (p := ⟨g12, 2, none⟩) hg3).trans b2; have d3 := (hW.cell (p := ⟨g12, 3, none⟩) hg3).trans b3; have d4 := (hW.cell (p := ⟨g12, 4, none⟩) hg3).trans b4; have d5 := (hW.cell (p := ⟨g12, 5, none⟩) hg3).trans b5; have c0 := (hW.cell (p := ⟨w.heap.size + 1, 0, none⟩) ha1).trans a0; have c1 := (hW.cell (p := ⟨w.heap.size + 1, 1, none⟩) ha1).trans a1)
                | (go_at_call_of 56 (Value.int IntKind.u64 m1); refine (P8.out _).mono ?_; rintro _ w8 ⟨rfl, bb⟩; have hW := below_on hW bb; have d0 := (hW.cell (p := ⟨g12, 0, none⟩) hg3).trans b0; have d1 := (hW.cell (p := ⟨g12, 1, none⟩) hg3).trans b1; have d2 := (hW.cell (p := ⟨g12, 2, none⟩) hg3).trans b2; have d3 := (hW.cell (p := ⟨g12, 3, none⟩) hg3).trans b3; have d4 := (hW.cell (p := ⟨g12, 4, none⟩) hg3).trans b4; have d5 := (hW.cell (p := ⟨g12, 5, none⟩) hg3).trans b5; have c0 := (hW.cell (p := ⟨w.heap.size + 1, 0, none⟩) ha1).trans a0; have c1 := (hW.cell (p := ⟨w.heap.size + 1, 1, none⟩) ha1).trans a1))
            all_goals
              clear c0 c1 d0 d1 d2 d3 d4 d5 a0 a1 b0 b1 b2 b3 b4 b5
              go_wp2_with fail
              go_meet
              exact ⟨rfl, hW⟩
          case rest =>
            obtain ⟨rfl, hX⟩ := hcut
            have hz4 := hX.size
            have HR4 := Lib.hid (HR3.out.below hX HR3.out.lt)
            have B5 := Lib.hid (below_on B4.out hX)
            have a0 := (hX.cell (p := ⟨w.heap.size + 1, 0, none⟩) ha1).trans a0
            have hl4 : w.heap.size + 1 < wc.heap.size := by omega
            have hl5 : w.heap.size + 2 < wc.heap.size := by have := HR4.out.lt; omega
            clear hX hW a1 b0 b1 b2 b3 b4 b5 HSM3 HSC3 HR3 B4
            go_wp2_with fail
            have hW : Below wc.heap.size wc wc.drew := (Below.refl wc.heap.size wc).drew
            go_cut [11] (fun s11 wx => s11 = .int .i64 0 ∧ Blk wx (w.heap.size + 2) 37 #[.int .i64 x.1, .int .u64 an] ∧ Below w.heap.size w wx)
            case first =>
              go_region_held_law (fun w' => w'.cell? ⟨w.heap.size + 1, 0, none⟩ = some (.int .i64 x.1)) (first | assumption | exact cell_setA (by simp only []; omega) (by assumption) | go_keep)
                (first
                  | (go_at_call 30; refine (P9.out _).mono ?_; rintro _ w9 ⟨rfl, bb⟩; have hW := below_on hW bb; have c0 := (hW.cell (p := ⟨w.heap.size + 1, 0, none⟩) hl4).trans a0; have HK := HR4.out.below hW HR4.out.lt; (obtain ⟨⟨g0, g1⟩, f0, f1⟩ := HK.facts2)))
              all_goals
                clear c0 a0
                go_wp2_with fail
                go_meet
                exact ⟨rfl, (HR4.out.below hW HR4.out.lt).set2, below_setR (below_setR (B5.out.trans (hW.mono B5.out.size)) (by omega) _) (by omega) _⟩
            case rest =>
              obtain ⟨rfl, hk, hB⟩ := hcut
              have h := hk.facts2.1
              go_wp2_with fail
              rw [HE.out.1, HE.out.2]
              refine bodyPost_ret (v := .tuple #[.agg #[.int .i64 x.1, .int .u64 an], .int .i64 0]) (by simp [results, Tryz.results22, go_sem, h.1, h.2]) rfl ⟨rfl, hB⟩
        · have HE := Lib.hid (HC1'.out hm)
          rw [decide_eq_false hm]
          clear hm HC1' HC2' HMEM HRI' P6 q12
          obtain ⟨⟨g0, g1⟩, f0, f1⟩ := HR3.out.facts2
          go_wp2_with fail
          have h := (HR3.out.set2 (x' := .int .i64 0) (y' := .int .u64 0)).facts2.1
          rw [HE.out.1, HE.out.2]
          refine bodyPost_ret (v := .tuple #[.agg #[.int .i64 0, .int .u64 0], .int .i64 60]) (by simp [results, Tryz.results22, go_sem, h.1, h.2]) rfl ⟨rfl, ?_⟩
          exact below_setR (below_setR B4.out (by omega) _) (by omega) _
    · have hq : (hd != 0) = true := by simpa using hh
      have HE := Lib.hid (HC0.out hh)
      clear hh HZ HC0 HC1 HC2 HMEM HRI
      obtain ⟨⟨g0, g1⟩, f0, f1⟩ := HR1.out.facts2
      go_wp2_with fail
      have h := (HR1.out.set2 (x' := .int .i64 0) (y' := .int .u64 0)).facts2.1
      rw [HE.out.1, HE.out.2]
      refine bodyPost_ret (v := .tuple #[.agg #[.int .i64 0, .int .u64 0], .int .i64 hd]) (by simp [results, Tryz.results22, go_sem, h.1, h.2]) rfl ⟨rfl, ?_⟩
      exact below_setR (below_setR B1.out (by omega) _) (by omega) _
end Go.Proofs.YtlannmedefjfhaaGreat

/- What package quorum tells of a part, and what it combines. -/
import Derived.Test.YtlannmedefjfhaaGreatQuorumK
namespace Go.Proofs.YtlannmedefjfhaaGreat
open Go.ChangeShapes Go.WideShapes Go.ChangeAt Go.RowKit Gs
set_option linter.unusedVariables false

theorem head_first (T N K : Int) [IsU K] (A : Option Addr) (c : Nat) (ps : List (Int × Int)) (hp : ShFix c ps) (M : Option Addr) (cm : Nat) (ms : List Int) (hm : ByFix cm ms) (D : Option Addr) (cd : Nat) (cs : List (Int × Int)) (hc : ShFix cd cs) (A4 : Option Addr) (c4 : Nat) (w : World) (hsp : SS w w.heap.size A ps) (hsm : SI w w.heap.size .u8 M ms) (hsc : SS w w.heap.size D cs) (hk : ∀ j (hj : j < ([⟨52, #[roundV T N K A ps.length c M ms.length cm D cs.length cd]⟩, ⟨53, #[roundV T N K A ps.length c M ms.length cm D cs.length cd]⟩, ⟨54, #[roundV T N K A ps.length c M ms.length cm D cs.length cd]⟩] : List Chk).length), ∃ ad, A4 = some ad ∧ ad.block < w.heap.size ∧ w.cell? (ad.add j) = some ([⟨52, #[roundV T N K A ps.length c M ms.length cm D cs.length cd]⟩, ⟨53, #[roundV T N K A ps.length c M ms.length cm D cs.length cd]⟩, ⟨54, #[roundV T N K A ps.length c M ms.length cm D cs.length cd]⟩] : List Chk)[j].val) :
    Calls Tryz.prog 41 #[.slice A4 3 c4] w fun e w' => e = .returned (.int .i64 (headF T N K ps cs)) ∧ Below w.heap.size w w' :=
  first_any A4 c4 [⟨52, #[roundV T N K A ps.length c M ms.length cm D cs.length cd]⟩, ⟨53, #[roundV T N K A ps.length c M ms.length cm D cs.length cd]⟩, ⟨54, #[roundV T N K A ps.length c M ms.length cm D cs.length cd]⟩] [crewF T N K ps, commF N cs, enoughF T cs] rfl (by simp) w hk
    (fun j h args w => by
      rcases j with _ | _ | _ | j
      · exact runs_in Tryz.func52 (by kernel_rfl) rfl args w
      · exact runs_in Tryz.func53 (by kernel_rfl) rfl args w
      · exact runs_in Tryz.func54 (by kernel_rfl) rfl args w
      · exact absurd h (by simp <;> omega))
    (fun j h g hz W' hW' => by
      rcases j with _ | _ | _ | j
      · exact crewMay_any T N K A c ps hp M ms.length cm D cs.length cd W' (hsp.on hW')
      · exact commits_any T N K A ps.length c M ms.length cm D cd cs hc W' (hsc.on hW')
      · exact enough_any T N K A ps.length c M ms.length cm D cd cs hc.len W'
      · exact absurd h (by simp <;> omega))

theorem wrong_one (e : Int) (ps cs : List (Int × Int)) (p : Int × Int) : wrongF e ps cs [p] = partF e ps cs p := by
  show firstE [partF e ps cs p] = _
  by_cases h : partF e ps cs p = 0
  · rw [show firstE [partF e ps cs p] = firstE [] from if_pos h, h]; rfl
  · exact if_neg h

set_option maxRecDepth 100000 in
set_option maxHeartbeats 8000000 in
theorem CheckPart_any (T N K : Int) [IsU K] (A : Option Addr) (c : Nat) (ps : List (Int × Int)) (hp : ShFix c ps) (M : Option Addr) (cm : Nat) (ms : List Int) (hm : ByFix cm ms) (D : Option Addr) (cd : Nat) (cs : List (Int × Int)) (hc : ShFix cd cs) (p : Int × Int) [IsU p.2] (w : World) (hsp : SS w w.heap.size A ps) (hsm : SI w w.heap.size .u8 M ms) (hsc : SS w w.heap.size D cs) :
    Calls Tryz.prog 24 #[crewV T N K A ps.length c, .slice M ms.length cm, .slice D cs.length cd, .agg #[.int .i64 p.1, .int .u64 p.2]] w fun e w' => e = .returned (.int .i64 (cpartF T N K ps ms cs p)) ∧ Below w.heap.size w w' := by
  have D0 := Lib.hid ((((Below.refl w.heap.size w).alloc (Nat.le_refl _) (.cells #[.int .i64 T, .int .i64 N, .int .u64 K, .slice A ps.length c] 26)).alloc (by simp) (.cells #[.int .i64 p.1, .int .u64 p.2] 37)).alloc (by simp; omega) (.cells #[.int .i64 T, .int .i64 N, .int .u64 K, .slice A ps.length c, .slice M ms.length cm, .slice D cs.length cd] 77))
  have K2 := Lib.hid ((Blk.new_at (w.alloc (.cells #[.int .i64 T, .int .i64 N, .int .u64 K, .slice A ps.length c] 26)) 37 #[.int .i64 p.1, .int .u64 p.2] (g := w.heap.size + 1) (by simp)).alloc (.cells #[.int .i64 T, .int .i64 N, .int .u64 K, .slice A ps.length c, .slice M ms.length cm, .slice D cs.length cd] 77))
  have K3 := Lib.hid (Blk.new_at ((w.alloc (.cells #[.int .i64 T, .int .i64 N, .int .u64 K, .slice A ps.length c] 26)).alloc (.cells #[.int .i64 p.1, .int .u64 p.2] 37)) 77 #[.int .i64 T, .int .i64 N, .int .u64 K, .slice A ps.length c, .slice M ms.length cm, .slice D cs.length cd] (g := w.heap.size + 2) (by simp))
  have HSP := Lib.hid (hsp.on D0.out)
  have HSM := Lib.hid (hsm.on D0.out)
  have HSC := Lib.hid (hsc.on D0.out)
  have P1 := Lib.hid (fun A4 c4 W h1 h2 h3 h4 => head_first T N K A c ps hp M cm ms hm D cd cs hc A4 c4 W h1 h2 h3 h4)
  have P2 := Lib.hid (fun W h1 h2 => chal_any T N K A ps.length c M cm ms D cd cs hc hm W h1 h2)
  have P3 := Lib.hid (fun hcr hco E ce W h1 h2 h3 => wrong_any T N K A c ps hp M ms.length cm D cd cs hc (chalF K ms cs) hcr hco E 1 ce [p] rfl (by omega) (fun q hq => by
    rw [List.mem_singleton] at hq
    subst hq
    exact ⟨(inferInstance : IsU q.2).1, (inferInstance : IsU q.2).2⟩) W h1 h2 h3)
  simp only [wrong_one] at P3
  unfold crewV
  unfold roundV at P1 P2 P3
  have HC1 := Lib.hid (fun (h : headF T N K ps cs = 0) => (show cpartF T N K ps ms cs p = partF (chalF K ms cs) ps cs p from if_pos h))
  have HC2 := Lib.hid (fun (h : headF T N K ps cs ≠ 0) => (show cpartF T N K ps ms cs p = headF T N K ps cs from if_neg h))
  have HZ := Lib.hid (fun (h : headF T N K ps cs = 0) => headF_zero h)
  clear hsp hsm hsc hp hm hc
  generalize headF T N K ps cs = hd at *
  generalize partF (chalF K ms cs) ps cs p = pf at *
  generalize cpartF T N K ps ms cs p = cp at *
  generalize chalF K ms cs = ch at *
  go_enter Tryz.func24, Tryz.ntmps24
  go_wp2_with fail
  have B2 := Lib.hid (fun cs' => (Below.refl (((w.alloc (.cells #[.int .i64 T, .int .i64 N, .int .u64 K, .slice A ps.length c] 26)).alloc (.cells #[.int .i64 p.1, .int .u64 p.2] 37)).alloc (.cells #[.int .i64 T, .int .i64 N, .int .u64 K, .slice A ps.length c, .slice M ms.length cm, .slice D cs.length cd] 77)).heap.size _).alloc (Nat.le_refl _) (.cells cs' 68))
  refine (P1.out _ _ _ (HSP.out.on (B2.out _)) (HSM.out.on (B2.out _)) (HSC.out.on (B2.out _)) (chks_at (Blk.new_at _ _ _ (by simp)) _ rfl)).mono ?_; rintro _ w1 ⟨rfl, b⟩
  have b' := below_on (B2.out _) b
  have B1 := Lib.hid (below_on D0.out b')
  have HSP1 := Lib.hid (HSP.out.on b')
  have HSM1 := Lib.hid (HSM.out.on b')
  have HSC1 := Lib.hid (HSC.out.on b')
  have k2 := K2.out.below b' K2.out.lt
  have k3 := K3.out.below b' K3.out.lt
  have a0 := k2.cell 0
  have a1 := k2.cell 1
  have b0 := k3.cell 0
  have b1 := k3.cell 1
  have b2 := k3.cell 2
  have b3 := k3.cell 3
  have b4 := k3.cell 4
  have b5 := k3.cell 5
  have hz1 : w.heap.size + 1 < w1.heap.size := k2.lt
  have hz2 : w.heap.size + 2 < w1.heap.size := k3.lt
  clear b b' k2 k3 K2 K3 HSP HSM HSC D0 B2
  by_cases hh : hd = 0
  · subst hh
    have hz := HZ.out rfl
    have HE := Lib.hid (HC1.out rfl)
    have P3' := Lib.hid (P3.out hz.1.1 hz.2.1)
    clear hz HZ HC1 HC2 P3 P1
    go_wp2_with fail
    have hW : Below w1.heap.size w1 w1.drew := (Below.refl w1.heap.size w1).drew
    go_cut [8] (fun s8 wx => s8 = .int .i64 pf ∧ Below w1.heap.size w1 wx)
    case first =>
      go_region_held_law (fun w' => (w'.cell? ⟨w.heap.size + 1, 0, none⟩ = some (.int .i64 p.1) ∧ w'.cell? ⟨w.heap.size + 1, 1, none⟩ = some (.int .u64 p.2)) ∧ w'.cell? ⟨w.heap.size + 2, 0, none⟩ = some (.int .i64 T) ∧ w'.cell? ⟨w.heap.size + 2, 1, none⟩ = some (.int .i64 N) ∧ w'.cell? ⟨w.heap.size + 2, 2, none⟩ = some (.int .u64 K) ∧ w'.cell? ⟨w.heap.size + 2, 3, none⟩ = some (.slice A ps.length c) ∧ w'.cell? ⟨w.heap.size + 2, 4, none⟩ = some (.slice M ms.length cm) ∧ w'.cell? ⟨w.heap.size + 2, 5, none⟩ = some (.slice D cs.length cd)) (first | exact ⟨⟨by assumption, by assumption⟩, by assumption, by assumption, by assumption, by assumption, by assumption, by assumption⟩ | go_keep)
        (first
          | (go_at_call 57; refine (P2.out _ (HSM1.out.on (by first | exact hW | exact hW.alloc hW.size _)) (HSC1.out.on (by first | exact hW | exact hW.alloc hW.size _))).mono ?_; rintro _ w5 ⟨rfl, bb⟩; (first | (have HBK := Lib.hid (show Blk w5 w1.heap.size 37 (cells2 [p]).toArray from (Blk.new_at w1.drew 37 (cells2 [p]).toArray rfl).below bb (by simp))) | skip); have hW := below_on (by first | exact hW | exact hW.alloc hW.size _) bb; have c0 := (hW.cell (p := ⟨w.heap.size + 1, 0, none⟩) hz1).trans a0; have c1 := (hW.cell (p := ⟨w.heap.size + 1, 1, none⟩) hz1).trans a1; have d0 := (hW.cell (p := ⟨w.heap.size + 2, 0, none⟩) hz2).trans b0; have d1 := (hW.cell (p := ⟨w.heap.size + 2, 1, none⟩) hz2).trans b1; have d2 := (hW.cell (p := ⟨w.heap.size + 2, 2, none⟩) hz2).trans b2; have d3 := (hW.cell (p := ⟨w.heap.size + 2, 3, none⟩) hz2).trans b3; have d4 := (hW.cell (p := ⟨w.heap.size + 2, 4, none⟩) hz2).trans b4; have d5 := (hW.cell (p := ⟨w.heap.size + 2, 5, none⟩) hz2).trans b5)
          | (go_at_call 64; refine (P3'.out _ _ _ (HSC1.out.on (by first | exact hW | exact hW.alloc hW.size _)) (HSP1.out.on (by first | exact hW | exact hW.alloc hW.size _)) (by first | exact ss_blk (l := [p]) (Blk.new_at _ _ _ rfl) | exact ss_blk HBK.out)).mono ?_; rintro _ w6 ⟨rfl, bb⟩; have hW := below_on (by first | exact hW | exact hW.alloc hW.size _) bb; have c0 := (hW.cell (p := ⟨w.heap.size + 1, 0, none⟩) hz1).trans a0; have c1 := (hW.cell (p := ⟨w.heap.size + 1, 1, none⟩) hz1).trans a1; have d0 := (hW.cell (p := ⟨w.heap.size + 2, 0, none⟩) hz2).trans b0; have d1 := (hW.cell (p := ⟨w.heap.size + 2, 1, none⟩) hz2).trans b1; have d2 := (hW.cell (p := ⟨w.heap.size + 2, 2, none⟩) hz2).trans b2; have d3 := (hW.cell (p := ⟨w.heap.size + 2, 3, none⟩) hz2).trans b3; have d4 := (hW.cell (p := ⟨w.heap.size + 2, 4, none⟩) hz2).trans b4; have d5 := (hW.cell (p := ⟨w.heap.size + 2, 5, none⟩) hz2).trans b5))
      all_goals
        clear c0 c1 d0 d1 d2 d3 d4 d5 a0 a1 b0 b1 b2 b3 b4 b5
        go_wp2_with fail
        go_meet
        exact ⟨rfl, hW⟩
    case rest =>
      obtain ⟨rfl, hX⟩ := hcut
      have HX := Lib.hid (B1.out.trans (hX.mono B1.out.size))
      clear hX hW
      go_wp2_with fail
      go_ret
      exact ⟨by rw [HE.out]; rfl, HX.out⟩
  · have hq : (hd != 0) = true := by simpa using hh
    have HE := Lib.hid (HC2.out hh)
    clear hh HZ HC1 HC2
    go_wp2_with fail
    go_ret
    exact ⟨by rw [HE.out]; rfl, B1.out⟩
end Go.Proofs.YtlannmedefjfhaaGreat

/- What package quorum tells of one part: whether it fits its commitment. -/
import Derived.Test.YtlannmedefjfhaaGreatQuorumH
namespace Go.Proofs.YtlannmedefjfhaaGreat
open Go.ChangeShapes Go.WideShapes Go.ChangeAt Go.RowKit Gs
set_option linter.unusedVariables false

theorem below_setR {B : Nat} {w w' : World} (h : Below B w w') {g o : Nat} (hg : B ≤ g) (v : Value) : Below B w (w'.setCell ⟨g, o, none⟩ v) := h.setCell hg v
theorem cell_setA {W : World} {a : Addr} {b o1 o2 : Nat} {v1 v2 v : Value} (h : a.block ≠ b) (hc : W.cell? a = some v) : ((W.setCell ⟨b, o1, none⟩ v1).setCell ⟨b, o2, none⟩ v2).cell? a = some v := by
  have e : ((W.setCell ⟨b, o1, none⟩ v1).setCell ⟨b, o2, none⟩ v2).heap[a.block]? = W.heap[a.block]? := (Below.heap_setCell _ ⟨b, o2, none⟩ v2 a.block h).trans (Below.heap_setCell _ ⟨b, o1, none⟩ v1 a.block h)
  exact (World.cell?_of_block (a := a) e).trans hc
theorem commits_idx {N : Int} {cs : List (Int × Int)} (h : CommitsOk N cs) (k : Nat) (hk : k < cs.length) {i : Int} (hi : cs[k].1 = i) : idxF (cs.map Prod.fst) i = k :=
  idxF_at k (by simpa using hk) (by rw [List.getElem_map]; exact hi.symm) (fun j g => by
    rw [List.getElem_map]
    have := (h k hk).2 j g
    omega)

set_option maxRecDepth 100000 in
set_option maxHeartbeats 8000000 in
theorem fits_any (T N K : Int) (A : Option Addr) (c : Nat) (ps : List (Int × Int)) (hp : ShFix c ps) (M : Option Addr) (m cm : Nat) (D : Option Addr) (cd : Nat) (cs : List (Int × Int)) (hc : ShFix cd cs) (e : Int) [IsU e] (p : Int × Int) [IsU p.2] (hcr : CrewOk T N K ps) (hco : CommitsOk N cs) (k : Nat) (hk : k < cs.length) (hid : cs[k].1 = p.1) (r : Int) (hr : (PartFits e (cs.map Prod.fst) ps cs[k] p ∧ r = 0) ∨ (¬ PartFits e (cs.map Prod.fst) ps cs[k] p ∧ r = 60)) (w : World) (hs : SS w w.heap.size D cs) (hsp : SS w w.heap.size A ps) :
    Calls Tryz.prog 114 #[roundV T N K A ps.length c M m cm D cs.length cd, .int .u64 e, .agg #[.int .i64 p.1, .int .u64 p.2]] w fun e' w' => e' = .returned (.int .i64 r) ∧ Below w.heap.size w w' := by
  obtain ⟨q, hq1⟩ : ∃ q : Nat, p.1 = (q : Int) + 1 := ⟨(p.1 - 1).toNat, by have := (hco k hk).1; omega⟩
  obtain ⟨p1, x0⟩ := p
  obtain rfl : p1 = (q : Int) + 1 := hq1
  haveI : IsU x0 := (inferInstance : IsU (((q : Int) + 1, x0) : Int × Int).2)
  simp only [] at hr hid
  unfold roundV
  have D0 := Lib.hid (((Below.refl w.heap.size w).alloc (Nat.le_refl _) (.cells #[.int .i64 T, .int .i64 N, .int .u64 K, .slice A ps.length c, .slice M m cm, .slice D cs.length cd] 77)).alloc (by simp) (.cells #[.int .i64 ((q : Int) + 1), .int .u64 x0] 37))
  have KB1 := ((Blk.new w 77 #[.int .i64 T, .int .i64 N, .int .u64 K, .slice A ps.length c, .slice M m cm, .slice D cs.length cd]).alloc (.cells #[.int .i64 ((q : Int) + 1), .int .u64 x0] 37))
  have k3 := KB1.cell 3
  have k5 := KB1.cell 5
  have KB2 := Blk.new_at (w.alloc (.cells #[.int .i64 T, .int .i64 N, .int .u64 K, .slice A ps.length c, .slice M m cm, .slice D cs.length cd] 77)) 37 #[.int .i64 ((q : Int) + 1), .int .u64 x0] (g := w.heap.size + 1) (by simp)
  have j0 := KB2.cell 0
  have j1 := KB2.cell 1
  clear KB1 KB2
  -- what is static
  have hN7 := hcr.2.2.1
  have hpl := hcr.2.2.2.2.1
  have hpar := (hco k hk).1
  have hql : q < ps.length := by omega
  have hRI := commits_right hco hN7 (by omega)
  have hmem : ((q : Int) + 1) ∈ cs.map Prod.fst := by rw [← hid]; exact List.mem_map_of_mem (List.getElem_mem hk)
  have hFE : PartFits e (cs.map Prod.fst) ps cs[k] ((q : Int) + 1, x0) ↔ qpow 4 x0 = qmul cs[k].2 (qpow ps[q].2 (rmul e (wat (cs.map Prod.fst) ((q : Int) + 1) 0))) := by
    unfold PartFits
    rw [hid, show (((q : Int) + 1) - 1).toNat = q by omega, List.getElem?_eq_getElem hql]
    rfl
  have HR : (qpow 4 x0 = qmul cs[k].2 (qpow ps[q].2 (rmul e (wat (cs.map Prod.fst) ((q : Int) + 1) 0))) ∧ r = 0) ∨ (qpow 4 x0 ≠ qmul cs[k].2 (qpow ps[q].2 (rmul e (wat (cs.map Prod.fst) ((q : Int) + 1) 0))) ∧ r = 60) := by
    rcases hr with ⟨h, rfl⟩ | ⟨h, rfl⟩
    · exact .inl ⟨hFE.1 h, rfl⟩
    · exact .inr ⟨fun g => h (hFE.2 g), rfl⟩
  have HIX := Lib.hid (commits_idx hco k hk hid)
  have hqx := hp.u ps[q] (List.getElem_mem hql)
  have hcx := hc.u cs[k] (List.getElem_mem hk)
  haveI : IsU ps[q].2 := ⟨hqx.1, hqx.2⟩
  haveI : IsU cs[k].2 := ⟨hcx.1, hcx.2⟩
  have HC := Lib.hid hs
  have HSP := Lib.hid hsp
  have P1 := Lib.hid (fun W (h : SS W W.heap.size D cs) => each_ids D cs.length cd cs rfl hc.len W h)
  have hJl : (cs.map Prod.fst).length ≤ 1048576 := by have := hc.len; simpa using this
  have P2 := Lib.hid (fun A c W h => index_int A (cs.map Prod.fst).length c (cs.map Prod.fst) rfl hJl ((q : Int) + 1) W h)
  rw [HIX.out] at P2
  have P3 := Lib.hid (fun W h => qweight D cs.length cd cs rfl (cs.map Prod.fst) rfl hRI ((q : Int) + 1) hmem W h)
  generalize cs.map Prod.fst = J at *
  have P4 := Lib.hid (MulR_r e (wat J ((q : Int) + 1) 0))
  have P5 := Lib.hid (Base_q x0)
  have P6 := Lib.hid (Pow_q ps[q].2 (rmul e (wat J ((q : Int) + 1) 0)))
  have HPR := Lib.hid (show qprod [cs[k].2, qpow ps[q].2 (rmul e (wat J ((q : Int) + 1) 0))] = qmul cs[k].2 (qpow ps[q].2 (rmul e (wat J ((q : Int) + 1) 0))) by
    show qmul (qmul 1 cs[k].2) (qpow ps[q].2 (rmul e (wat J ((q : Int) + 1) 0))) = _
    rw [qmul_comm 1, qmul_one_in hpar.2.2])
  have HUP := Lib.hid (show IsU (qpow ps[q].2 (rmul e (wat J ((q : Int) + 1) 0))) from IsU.below (qpow_bound _ _) (by omega))
  have HUC := Lib.hid (show IsU cs[k].2 from inferInstance)
  have hcl : cs.length ≤ 1048576 := hc.len
  have hplen : ps.length ≤ 1048576 := hp.len
  clear hs hsp hJl hr hFE HIX hpar hRI hmem hco hcr hqx hcx hc hp
  generalize rmul e (wat J ((q : Int) + 1) 0) = pw at *
  generalize wat J ((q : Int) + 1) 0 = wi at *
  obtain ⟨cx, hcx⟩ : ∃ cx, cs[k].2 = cx := ⟨_, rfl⟩
  obtain ⟨px, hpx⟩ : ∃ px, ps[q].2 = px := ⟨_, rfl⟩
  obtain ⟨ad, hA, had, c0, c1⟩ := HC.out k hk
  obtain ⟨ae, hE, hae, d0, d1⟩ := HSP.out q hql
  rw [hcx] at HR HPR HUC c1
  rw [hpx] at HR P6 HPR HUP d1
  rw [hid] at c0
  subst hA
  subst hE
  clear hcx hpx hid
  generalize ps[q].1 = pi at d0
  generalize qpow px pw = pp at *
  have P7 := Lib.hid (fun A c W (h : SI W W.heap.size .u64 A [cx, pp]) => product_any6 A 2 c [cx, pp] rfl (by omega) (fun x hx => by
    simp only [List.mem_cons, List.not_mem_nil, or_false] at hx
    rcases hx with rfl | rfl
    · exact HUC.out
    · exact HUP.out) W h)
  rw [HPR.out] at P7
  clear HPR
  generalize qmul cx pp = zz at *
  generalize qpow 4 x0 = yy at *
  have c0' := (D0.out.cell (p := ad.add (k * 2)) (by rw [block_of_add]; exact had)).trans c0
  have c1' := (D0.out.cell (p := ⟨(ad.add (k * 2)).block, (ad.add (k * 2)).off + 1, none⟩) (by show (ad.add (k * 2)).block < _; rw [block_of_add]; exact had)).trans c1
  have d0' := (D0.out.cell (p := ae.add (q * 2)) (by rw [block_of_add]; exact hae)).trans d0
  have d1' := (D0.out.cell (p := ⟨(ae.add (q * 2)).block, (ae.add (q * 2)).off + 1, none⟩) (by show (ae.add (q * 2)).block < _; rw [block_of_add]; exact hae)).trans d1
  have hbc : (ad.add (k * 2)).block < w.heap.size := by rw [block_of_add]; exact had
  have hbp : (ae.add (q * 2)).block < w.heap.size := by rw [block_of_add]; exact hae
  clear c0 c1 d0 d1
  go_enter Tryz.func114, Tryz.ntmps114
  go_wp2_with fail
  refine wp_named (fun W => (W.cell? ⟨w.heap.size, 3, none⟩ = some (.slice (some ae) ps.length c) ∧ W.cell? ⟨w.heap.size, 5, none⟩ = some (.slice (some ad) cs.length cd) ∧ W.cell? ⟨w.heap.size + 1, 0, none⟩ = some (.int .i64 ((q : Int) + 1)) ∧ W.cell? ⟨w.heap.size + 1, 1, none⟩ = some (.int .u64 x0)) ∧ (W.cell? (ad.add (k * 2)) = some (.int .i64 ((q : Int) + 1)) ∧ W.cell? ⟨(ad.add (k * 2)).block, (ad.add (k * 2)).off + 1, none⟩ = some (.int .u64 cx) ∧ W.cell? (ae.add (q * 2)) = some (.int .i64 pi) ∧ W.cell? ⟨(ae.add (q * 2)).block, (ae.add (q * 2)).off + 1, none⟩ = some (.int .u64 px)) ∧ Below w.heap.size w W ∧ w.heap.size + 1 < W.heap.size) ⟨⟨k3, k5, j0, j1⟩, ⟨c0', c1', d0', d1'⟩, D0.out, by simp⟩ ?_
  clear k3 k5 j0 j1 c0' c1' d0' d1' D0
  rintro W ⟨⟨k3, k5, j0, j1⟩, ⟨c0, c1, d0, d1⟩, hD, hz⟩
  have D0 := Lib.hid hD
  have HC1 := Lib.hid (HC.out.on hD)
  have hbc' : (ad.add (k * 2)).block < W.heap.size := by omega
  have hbp' : (ae.add (q * 2)).block < W.heap.size := by omega
  clear hD hbc hbp HC HSP
  have hd : W.heap.size ≤ W.drew.heap.size := Nat.le_refl _
  have hbc2 := hbc'
  go_cut [7] (fun s7 wx => ∃ g : Nat, s7 = .pointer (some ⟨g, 0, none⟩) ∧ wx.cell? ⟨g, 0, none⟩ = some (.int .i64 ((q : Int) + 1)) ∧ wx.cell? ⟨g, 1, none⟩ = some (.int .u64 cx) ∧ Below W.heap.size W wx ∧ W.heap.size ≤ g ∧ g < wx.heap.size)
  case first =>
    go_region_held_law (fun w' => w'.cell? ⟨w.heap.size, 5, none⟩ = some (.slice (some ad) cs.length cd) ∧ w'.cell? ⟨w.heap.size + 1, 0, none⟩ = some (.int .i64 ((q : Int) + 1)) ∧ w'.cell? (ad.add (k * 2)) = some (.int .i64 ((q : Int) + 1)) ∧ w'.cell? ⟨(ad.add (k * 2)).block, (ad.add (k * 2)).off + 1, none⟩ = some (.int .u64 cx)) (first | exact ⟨by assumption, by assumption, by assumption, by assumption⟩ | exact ⟨cell_setA (by first | omega | (simp only []; omega)) (by assumption), cell_setA (by first | omega | (simp only []; omega)) (by assumption), cell_setA (by first | omega | (simp only []; omega)) (by assumption), cell_setA (by first | omega | (simp only []; omega)) (by assumption)⟩ | go_keep)
      (first
        | (go_at_call 68; refine (P1.out _ (by first | exact (HC1.out.on ((Below.refl _ _).drew)) | exact (HC1.out.on (((Below.refl _ _).drew).alloc (Nat.le_refl _) _)))).mono ?_; rintro _ w5 ⟨v5, rfl, ho5, b5⟩; obtain ⟨A5, c5, rfl, q1, q2, hs5, _⟩ := own_sliceI ho5; have HS5 := Lib.hid hs5; have bb : Below (W.drew).heap.size (W.drew) w5 := (by first | exact b5 | exact below_on ((Below.refl (W.drew).heap.size (W.drew)).alloc (Nat.le_refl _) _) b5); (first | (have GB := Lib.hid (GB.out.below bb GB.out.lt)) | (have GB := Lib.hid (show Blk w5 (W).heap.size 37 #[.int .i64 0, .int .u64 0] from (Blk.new_at (W.drew) 37 #[.int .i64 0, .int .u64 0] rfl).below b5 (by simp <;> omega))) | skip); have hW := (Below.refl W.heap.size W).drew.trans (bb.mono (by omega)); have hZ1 := hW.size; have e5 := (hW.cell (p := ⟨w.heap.size, 5, none⟩) (by simp only []; omega)).trans k5; have f0 := (hW.cell (p := ⟨w.heap.size + 1, 0, none⟩) hz).trans j0; have a0 := (hW.cell (p := ad.add (k * 2)) hbc2).trans c0; have a1 := (hW.cell (p := ⟨(ad.add (k * 2)).block, (ad.add (k * 2)).off + 1, none⟩) hbc2).trans c1; clear ho5 hs5 q1 q2)
        | (go_at_call 141; refine (P2.out A5 c5 _ (by first | exact HS5.out | exact HS5.out.on ((Below.refl _ _).alloc (Nat.le_refl _) _))).mono ?_; rintro _ w6 ⟨rfl, b5⟩; have bb : Below w5.heap.size w5 w6 := (by first | exact b5 | exact below_on ((Below.refl w5.heap.size w5).alloc (Nat.le_refl _) _) b5); (first | (have GB := Lib.hid (GB.out.below bb GB.out.lt)) | (have GB := Lib.hid (show Blk w6 (w5).heap.size 37 #[.int .i64 0, .int .u64 0] from (Blk.new_at (w5) 37 #[.int .i64 0, .int .u64 0] rfl).below b5 (by simp <;> omega))) | skip); have hW := hW.trans (bb.mono hW.size); have hZ2 := hW.size; have e5 := (hW.cell (p := ⟨w.heap.size, 5, none⟩) (by simp only []; omega)).trans k5; have f0 := (hW.cell (p := ⟨w.heap.size + 1, 0, none⟩) hz).trans j0; have a0 := (hW.cell (p := ad.add (k * 2)) hbc2).trans c0; have a1 := (hW.cell (p := ⟨(ad.add (k * 2)).block, (ad.add (k * 2)).off + 1, none⟩) hbc2).trans c1; (try (obtain ⟨⟨g0, g1⟩, f0, f1⟩ := GB.out.facts2))))
    all_goals
      clear a0 a1 c0 c1 d0 d1 e5 k3 k5 j0 j1 P1 P2 P3 P4 P5 P6 P7 HC1
      go_wp2_with fail
      go_meet
      first
        | exact ⟨_, rfl, (Blk.new w6 _ _).cell 0, (Blk.new w6 _ _).cell 1, hW.alloc hW.size _, hW.size, by simp⟩
        | exact ⟨_, rfl, GB.out.set2.cell 0, GB.out.set2.cell 1, below_setR (below_setR hW (by omega) _) (by omega) _, by omega, GB.out.set2.lt⟩
  case rest =>
    obtain ⟨g, rfl, g0, g1, hB, hg1, hg2⟩ := hcut
    have k3 := (hB.cell (p := ⟨w.heap.size, 3, none⟩) (by simp only []; omega)).trans k3
    have k5 := (hB.cell (p := ⟨w.heap.size, 5, none⟩) (by simp only []; omega)).trans k5
    have j0 := (hB.cell (p := ⟨w.heap.size + 1, 0, none⟩) hz).trans j0
    have j1 := (hB.cell (p := ⟨w.heap.size + 1, 1, none⟩) hz).trans j1
    have d0 := (hB.cell (p := ae.add (q * 2)) hbp').trans d0
    have d1 := (hB.cell (p := ⟨(ae.add (q * 2)).block, (ae.add (q * 2)).off + 1, none⟩) hbp').trans d1
    have hzB := hB.size
    have HB := Lib.hid hB
    have HC2 := Lib.hid (HC1.out.on hB)
    have hw1 : w.heap.size < wc.heap.size := by omega
    have hw2 : w.heap.size + 1 < wc.heap.size := by omega
    have hqi : (q : Int) < (ps.length : Int) := by omega
    have hq0 : (0 : Int) ≤ (q : Int) := by omega
    have hwr : IntKind.i64.wrap (q : Int) = (q : Int) := IntWalk.i64_in _ (by omega)
    clear hB c0 c1 g0
    go_wp2_with fail
    have B8 := Lib.hid (HB.out.alloc hzB (.cells #[.int .i64 pi, .int .u64 px] 37))
    have KP := Lib.hid (Blk.new wc 37 #[.int .i64 pi, .int .u64 px])
    refine (P3.out _ (HC2.out.on ((Below.refl wc.heap.size wc).alloc (Nat.le_refl _) _))).mono ?_; rintro _ w7 ⟨rfl, b⟩
    have KP7 := Lib.hid (KP.out.below b (by simp))
    have B7 := Lib.hid (below_on B8.out b)
    have j1 := (b.cell (p := ⟨w.heap.size + 1, 1, none⟩) (by simp; omega)).trans (((Below.refl wc.heap.size wc).alloc (Nat.le_refl _) (.cells #[.int .i64 pi, .int .u64 px] 37)).cell (p := ⟨w.heap.size + 1, 1, none⟩) hw2 |>.trans j1)
    have g1 := (b.cell (p := ⟨g, 1, none⟩) (by simp; omega)).trans (((Below.refl wc.heap.size wc).alloc (Nat.le_refl _) (.cells #[.int .i64 pi, .int .u64 px] 37)).cell (p := ⟨g, 1, none⟩) hg2 |>.trans g1)
    have hs7 : wc.heap.size < w7.heap.size := by have := b.size; simp at this; omega
    clear b KP B8
    go_wp2_with fail
    refine (P4.out _).mono ?_; rintro _ w8 ⟨rfl, b⟩
    have KP8 := KP7.out.below b KP7.out.lt
    have B9 := Lib.hid (below_on B7.out b)
    have j1 := (b.cell (p := ⟨w.heap.size + 1, 1, none⟩) (by simp only []; omega)).trans j1
    have g1 := (b.cell (p := ⟨g, 1, none⟩) (by simp only []; omega)).trans g1
    have h1 := KP8.cell 1
    have hs8 := b.size
    clear b KP7 KP8 B7 k3 k5 j0 d0 d1
    go_wp2_with fail
    refine wp_named (fun V => V.cell? ⟨w.heap.size + 1, 1, none⟩ = some (.int .u64 x0) ∧ V.cell? ⟨g, 1, none⟩ = some (.int .u64 cx) ∧ V.cell? ⟨wc.heap.size, 1, none⟩ = some (.int .u64 px) ∧ Below W.heap.size W V ∧ wc.heap.size < V.heap.size) ⟨j1, g1, h1, B9.out, by omega⟩ ?_
    clear j1 g1 h1 B9
    rintro V ⟨j1, g1, h1, hBV, hsV⟩
    have HBV := Lib.hid (D0.out.trans (hBV.mono (by omega)))
    have hv1 : w.heap.size + 1 < V.heap.size := by omega
    have hv2 : g < V.heap.size := by omega
    generalize wc.heap.size = g8 at *
    have hv3 := hsV
    clear hBV HB HC2
    have hW : Below V.heap.size V V.drew := (Below.refl V.heap.size V).drew
    go_cut [46] (fun s46 wx => s46 = .bool (yy != zz) ∧ Below V.heap.size V wx)
    case first =>
      go_region_held_law (fun w' => w'.cell? ⟨w.heap.size + 1, 1, none⟩ = some (.int .u64 x0) ∧ w'.cell? ⟨g, 1, none⟩ = some (.int .u64 cx) ∧ w'.cell? ⟨g8, 1, none⟩ = some (.int .u64 px)) (first | exact ⟨by assumption, by assumption, by assumption⟩ | go_keep)
        (first
          | (go_at_call 34; refine (P5.out _).mono ?_; rintro _ wB ⟨rfl, b5⟩; (first | (have HBK := Lib.hid (show Blk wB wP.heap.size 23 #[.int .u64 cx, .int .u64 pp] from (Blk.new_at wP 23 #[.int .u64 cx, .int .u64 pp] rfl).below b5 (by simp))) | skip); have hW := below_on (by first | exact hW | exact hW.alloc hW.size _) b5; have a1 := (hW.cell (p := ⟨w.heap.size + 1, 1, none⟩) hv1).trans j1; have a2 := (hW.cell (p := ⟨g, 1, none⟩) hv2).trans g1; have a3 := (hW.cell (p := ⟨g8, 1, none⟩) hv3).trans h1)
          | (go_at_call 73; refine (P6.out _).mono ?_; rintro _ wP ⟨rfl, b5⟩; have hW := below_on (by first | exact hW | exact hW.alloc hW.size _) b5; have a1 := (hW.cell (p := ⟨w.heap.size + 1, 1, none⟩) hv1).trans j1; have a2 := (hW.cell (p := ⟨g, 1, none⟩) hv2).trans g1; have a3 := (hW.cell (p := ⟨g8, 1, none⟩) hv3).trans h1)
          | (go_at_call 98; refine (P7.out _ _ _ (by first | exact SI_block (Blk.new_at _ _ _ rfl) rfl (by simp) | exact SI_block HBK.out rfl HBK.out.lt)).mono ?_; rintro _ wQ ⟨rfl, b5⟩; have hW := below_on (by first | exact hW | exact hW.alloc hW.size _) b5; have a1 := (hW.cell (p := ⟨w.heap.size + 1, 1, none⟩) hv1).trans j1; have a2 := (hW.cell (p := ⟨g, 1, none⟩) hv2).trans g1; have a3 := (hW.cell (p := ⟨g8, 1, none⟩) hv3).trans h1))
      all_goals
        clear a1 a2 a3 j1 g1 h1
        go_wp2_with fail
        go_meet
        exact ⟨by rfl, hW⟩
    case rest =>
      obtain ⟨rfl, hX⟩ := hcut
      have HX := Lib.hid (HBV.out.trans (hX.mono HBV.out.size))
      clear hX hW
      rcases HR with ⟨he, rfl⟩ | ⟨he, rfl⟩
      · have hq : (yy != zz) = false := by simp [he]
        clear he
        go_wp2_with fail
        go_ret
        exact ⟨by rfl, HX.out⟩
      · have hq : (yy != zz) = true := by simpa using he
        clear he
        go_wp2_with fail
        go_ret
        exact ⟨by rfl, HX.out⟩
end Go.Proofs.YtlannmedefjfhaaGreat

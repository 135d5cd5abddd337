/- What package quorum tells of parts: what is wrong with the first one that has to be given up. -/
import Derived.Test.YtlannmedefjfhaaGreatQuorumI
import Derived.WalkMore
namespace Go.Proofs.YtlannmedefjfhaaGreat
open Go.ChangeShapes Go.WideShapes Go.ChangeAt Go.RowKit Gs
set_option linter.unusedVariables false

set_option maxRecDepth 100000 in
set_option maxHeartbeats 8000000 in
theorem wrong1_any (T N K : Int) (A : Option Addr) (c : Nat) (ps : List (Int × Int)) (hp : ShFix c ps) (M : Option Addr) (m cm : Nat) (D : Option Addr) (cd : Nat) (cs : List (Int × Int)) (hc : ShFix cd cs) (e : Int) [IsU e] (p : Int × Int) [IsU p.2] (hcr : CrewOk T N K ps) (hco : CommitsOk N cs) (hi : p.1 ∈ cs.map Prod.fst) (r : Int) (hr : (PartFits e (cs.map Prod.fst) ps (cAt cs p.1) p ∧ r = 0) ∨ (¬ PartFits e (cs.map Prod.fst) ps (cAt cs p.1) p ∧ r = 60)) (Bx By : Nat) (w : World) (hk : Blk w Bx 77 #[.int .i64 T, .int .i64 N, .int .u64 K, .slice A ps.length c, .slice M m cm, .slice D cs.length cd]) (hby : w.cell? ⟨By, 0, none⟩ = some (.int .u64 e)) (hby' : By < w.heap.size) (hs : SS w w.heap.size D cs) (hsp : SS w w.heap.size A ps) :
    Calls Tryz.prog 113 #[.agg #[.int .i64 p.1, .int .u64 p.2], .pointer (some ⟨Bx, 0, none⟩), .pointer (some ⟨By, 0, none⟩)] w fun e' w' => e' = .returned (.int .i64 r) ∧ Below w.heap.size w w' := by
  obtain ⟨k, hkk, hid⟩ := ids_at hi
  rw [show cAt cs p.1 = cs[k] by rw [← hid]; exact cAt_eq hco k hkk] at hr
  have P := Lib.hid (fun W h h' => fits_any T N K A c ps hp M m cm D cd cs hc e p hcr hco k hkk hid r hr W h h')
  unfold roundV at P
  have D0 := Lib.hid ((Below.refl w.heap.size w).alloc (Nat.le_refl _) (.cells #[.int .i64 p.1, .int .u64 p.2] 37))
  have k0 := hk.cell 0
  have k1 := hk.cell 1
  have k2 := hk.cell 2
  have k3 := hk.cell 3
  have k4 := hk.cell 4
  have k5 := hk.cell 5
  have hbx := hk.lt
  have HS := Lib.hid (hs.on D0.out)
  have HSP := Lib.hid (hsp.on D0.out)
  clear hi hid hr hk hs hsp hcr hco hp hc hkk
  go_enter Tryz.func113, Tryz.ntmps113
  go_wp2_with fail
  refine (P.out _ HS.out HSP.out).mono ?_; rintro _ w1 ⟨rfl, b⟩
  have B1 := Lib.hid (below_on D0.out b)
  clear b
  go_wp2_with fail
  go_ret
  exact ⟨rfl, B1.out⟩

theorem wrong_stop {e : Int} {ps cs l : List (Int × Int)} (k : Nat) (hk : k < l.length) (h0 : ∀ j (g : j < l.length), j < k → partF e ps cs l[j] = 0) (h : partF e ps cs l[k] ≠ 0) : wrongF e ps cs l = partF e ps cs l[k] := by
  unfold wrongF
  rw [firstE_stop (l.map (partF e ps cs)) k (by simpa using hk) (fun i g hi => by rw [List.getElem_map]; exact h0 i (by simpa using g) hi) (by rw [List.getElem_map]; exact h)]
  rw [List.getElem_map]
theorem wrong_none {e : Int} {ps cs l : List (Int × Int)} (h0 : ∀ j (g : j < l.length), j < l.length → partF e ps cs l[j] = 0) : wrongF e ps cs l = 0 :=
  firstE_none _ (fun i g => by rw [List.getElem_map]; exact h0 i (by simpa using g) (by simpa using g))

set_option maxRecDepth 100000 in
set_option maxHeartbeats 8000000 in
theorem wrong_any (T N K : Int) (A : Option Addr) (c : Nat) (ps : List (Int × Int)) (hp : ShFix c ps) (M : Option Addr) (m cm : Nat) (D : Option Addr) (cd : Nat) (cs : List (Int × Int)) (hc : ShFix cd cs) (e : Int) [IsU e] (hcr : CrewOk T N K ps) (hco : CommitsOk N cs) (E : Option Addr) (n ce : Nat) (l : List (Int × Int)) (hn : l.length = n) (hln : n ≤ 1048576) (hu : ∀ p ∈ l, 0 ≤ p.2 ∧ p.2 < 18446744073709551616) (w : World) (hs : SS w w.heap.size D cs) (hsp : SS w w.heap.size A ps) (hsl : SS w w.heap.size E l) :
    Calls Tryz.prog 64 #[roundV T N K A ps.length c M m cm D cs.length cd, .int .u64 e, .slice E n ce] w fun e' w' => e' = .returned (.int .i64 (wrongF e ps cs l)) ∧ Below w.heap.size w w' := by
  subst hn
  unfold roundV
  have D0 := Lib.hid (((Below.refl w.heap.size w).alloc (Nat.le_refl _) (.cells #[.int .i64 T, .int .i64 N, .int .u64 K, .slice A ps.length c, .slice M m cm, .slice D cs.length cd] 77)).alloc (by simp) (.cells #[.int .u64 e] 23))
  have KB1 := ((Blk.new w 77 #[.int .i64 T, .int .i64 N, .int .u64 K, .slice A ps.length c, .slice M m cm, .slice D cs.length cd]).alloc (.cells #[.int .u64 e] 23))
  have j0 := (Blk.new_at (w.alloc (.cells #[.int .i64 T, .int .i64 N, .int .u64 K, .slice A ps.length c, .slice M m cm, .slice D cs.length cd] 77)) 23 #[.int .u64 e] (g := w.heap.size + 1) (by simp)).cell 0
  have HS := Lib.hid hs
  have HSP := Lib.hid hsp
  have HSL := Lib.hid hsl
  have HU := Lib.hid hu
  have HK := Lib.hid KB1
  have PO := Lib.hid (fun (p : Int × Int) (r : Int) hr W h => isOfOne_any T N K A ps.length c M m cm D cd cs hc p r hr W h)
  have PW := Lib.hid (fun (p : Int × Int) (hq : IsU p.2) hi r hr Bx By W h1 h2 h3 h4 h5 => wrong1_any T N K A c ps hp M m cm D cd cs hc e p hcr hco hi r hr Bx By W h1 h2 h3 h4 h5)
  unfold roundV at PO
  clear hs hsp hsl hu KB1 hcr hco hp hc
  go_enter Tryz.func64, Tryz.ntmps64
  go_wp2_with fail
  go_step3
  go_wp2_with fail
  go_step3
  go_wp2_with fail
  refine wp_named (fun W => Blk W w.heap.size 77 #[.int .i64 T, .int .i64 N, .int .u64 K, .slice A ps.length c, .slice M m cm, .slice D cs.length cd] ∧ W.cell? ⟨w.heap.size + 1, 0, none⟩ = some (.int .u64 e) ∧ Below w.heap.size w W ∧ w.heap.size + 1 < W.heap.size) ⟨HK.out, j0, D0.out, by simp⟩ ?_
  clear j0 D0 HK
  rintro W0 ⟨hk, j0, hD, hz0⟩
  have D0 := Lib.hid hD
  have HK := Lib.hid hk
  have HJ := Lib.hid j0
  clear hk hD j0
  go_loopw [8, 16] (fun ev i wr => ∃ k : Nat, k ≤ l.length ∧ i = .int .i64 k ∧ ev = .int .i64 0 ∧ (∀ j (g : j < l.length), j < k → partF e ps cs l[j] = 0) ∧ Below W0.heap.size W0 wr) (fun _ i _ => l.length - (intOf i).toNat)
  case atStart => exact ⟨0, by omega, rfl, rfl, fun j g h => by omega, Below.refl _ _⟩
  case round =>
    obtain ⟨k, hk, rfl, rfl, h0, hb⟩ := hrel
    have HB := Lib.hid hb
    have H0 := Lib.hid h0
    have hz := hb.size
    have KW := hk
    have hkb := HK.out.below hb (by omega)
    have HKB := Lib.hid hkb
    have HJB := Lib.hid ((hb.cell (p := ⟨w.heap.size + 1, 0, none⟩) (by simp only []; omega)).trans HJ.out)
    have k0 := hkb.cell 0
    have k1 := hkb.cell 1
    have k2 := hkb.cell 2
    have k3 := hkb.cell 3
    have k4 := hkb.cell 4
    have k5 := hkb.cell 5
    clear hb h0 hkb
    by_cases hlt : k < l.length
    · obtain ⟨ad, rfl, had, c0, c1⟩ := ((HSL.out.on D0.out).below HB.out) k hlt
      have HST := Lib.hid (fun h => wrong_stop k hlt H0.out h)
      have HN := Lib.hid (fun (z : partF e ps cs l[k] = 0) => (show ∀ j (g : j < l.length), j < k + 1 → partF e ps cs l[j] = 0 from fun j g h => by
        by_cases ej : j = k
        · subst ej; exact z
        · exact H0.out j g (by omega)))
      have hx := HU.out l[k] (List.getElem_mem hlt)
      have HX := Lib.hid (show IsU l[k].2 from ⟨hx.1, hx.2⟩)
      generalize l[k] = p at *
      clear hx
      have hw1 : w.heap.size < wr.heap.size := by omega
      have hw2 : w.heap.size ≠ wr.heap.size := by omega
      go_wp2_with fail
      refine wp_loop_rounds 3 ?_
      rw [rounds_succ]
      go_wp2_with fail
      have D2 := Lib.hid (((Below.refl wr.heap.size wr).alloc (Nat.le_refl _) (.cells #[.int .i64 p.1, .int .u64 p.2] 37)).alloc (by simp) (.cells #[.func (.func 115) #[.agg #[.int .i64 T, .int .i64 N, .int .u64 K, .slice A ps.length c, .slice M m cm, .slice D cs.length cd]] #[], .func (.func 113) #[] #[.pointer (some ⟨w.heap.size, 0, none⟩), .pointer (some ⟨w.heap.size + 1, 0, none⟩)]] 119))
      have KS := Lib.hid ((Blk.new wr 37 #[.int .i64 p.1, .int .u64 p.2]).alloc (.cells #[.func (.func 115) #[.agg #[.int .i64 T, .int .i64 N, .int .u64 K, .slice A ps.length c, .slice M m cm, .slice D cs.length cd]] #[], .func (.func 113) #[] #[.pointer (some ⟨w.heap.size, 0, none⟩), .pointer (some ⟨w.heap.size + 1, 0, none⟩)]] 119))
      have KF := Lib.hid (Blk.new_at (wr.alloc (.cells #[.int .i64 p.1, .int .u64 p.2] 37)) 119 #[.func (.func 115) #[.agg #[.int .i64 T, .int .i64 N, .int .u64 K, .slice A ps.length c, .slice M m cm, .slice D cs.length cd]] #[], .func (.func 113) #[] #[.pointer (some ⟨w.heap.size, 0, none⟩), .pointer (some ⟨w.heap.size + 1, 0, none⟩)]] (g := wr.heap.size + 1) (by simp))
      have HSC := Lib.hid ((HS.out.on D0.out).on HB.out)
      have HSA := Lib.hid ((HSP.out.on D0.out).on HB.out)
      by_cases hin : p.1 ∈ cs.map Prod.fst ∧ p.2 < 1152921504606845789
      · refine (PO.out p 0 (.inl ⟨hin.1, hin.2, rfl⟩) _ (HSC.out.on D2.out)).mono ?_; rintro _ w5 ⟨rfl, b⟩
        have HIN := Lib.hid hin
        have B5 := Lib.hid (below_on D2.out b)
        have ks := KS.out.below b KS.out.lt
        have kf := KF.out.below b KF.out.lt
        have KS5 := Lib.hid ks
        have s0 := ks.cell 0
        have s1 := ks.cell 1
        have q0 := kf.cell 0
        have q1 := kf.cell 1
        have hz5 := b.size
        clear b ks kf KS KF hin c0 c1 k0 k1 k2 k3 k4 k5
        go_wp2_with fail
        rw [rounds_succ]
        go_wp2_with fail
        obtain ⟨r2, hr2, hr3⟩ : ∃ r2 : Int, ((PartFits e (cs.map Prod.fst) ps (cAt cs p.1) p ∧ r2 = 0) ∨ (¬ PartFits e (cs.map Prod.fst) ps (cAt cs p.1) p ∧ r2 = 60)) ∧ partF e ps cs p = r2 := by
          by_cases g : PartFits e (cs.map Prod.fst) ps (cAt cs p.1) p
          · exact ⟨0, .inl ⟨g, rfl⟩, partF_yes HIN.out g⟩
          · exact ⟨60, .inr ⟨g, rfl⟩, partF_no HIN.out g⟩
        have HR3 := Lib.hid hr3
        have B5w := Lib.hid (HB.out.trans (B5.out.mono hz))
        refine (PW.out p HX.out HIN.out.1 r2 hr2 w.heap.size (w.heap.size + 1) w5 (HKB.out.below B5.out (by omega)) ((B5.out.cell (p := ⟨w.heap.size + 1, 0, none⟩) (by simp only []; omega)).trans HJB.out) (by have := B5.out.size; omega) (HSC.out.on B5.out) (HSA.out.on B5.out)).mono ?_; rintro _ w6 ⟨rfl, b⟩
        have hr22 : r2 = 0 ∨ r2 = 60 := by rcases hr2 with ⟨_, h⟩ | ⟨_, h⟩ <;> simp [h]
        have B6 := Lib.hid (below_on B5.out b)
        clear b hr2 hr3
        rcases hr22 with rfl | rfl
        · have HN2 := Lib.hid (HN.out HR3.out)
          clear HN HST
          go_wp2_with fail
          rw [rounds_succ]
          go_wp2_with fail
          go_roundw
          case rel => exact ⟨k + 1, by omega, by go_num, rfl, HN2.out, HB.out.trans (B6.out.mono hz)⟩
          case measure => simp [intOf]; omega
        · have HE := Lib.hid ((HST.out (by rw [HR3.out]; omega)).trans HR3.out)
          clear HN HST
          go_wp2_with fail
          try rw [Exit.noGoto_ret]
          go_ret
          exact ⟨by rw [HE.out]; rfl, D0.out.trans ((HB.out.trans (B6.out.mono hz)).mono (by omega))⟩
      · refine (PO.out p 1 (.inr ⟨hin, rfl⟩) _ (HSC.out.on D2.out)).mono ?_; rintro _ w5 ⟨rfl, b⟩
        have HR3 := Lib.hid (partF_out (e := e) (ps := ps) hin)
        have HE := Lib.hid ((HST.out (by rw [HR3.out]; omega)).trans HR3.out)
        have B5 := Lib.hid (below_on D2.out b)
        clear b KS KF hin c0 c1 k0 k1 k2 k3 k4 k5 HN HST
        go_wp2_with fail
        try rw [Exit.noGoto_ret]
        go_ret
        exact ⟨by rw [HE.out]; rfl, D0.out.trans ((HB.out.trans (B5.out.mono hz)).mono (by omega))⟩
    · obtain rfl : k = l.length := by omega
      have HE := Lib.hid (wrong_none H0.out)
      go_wp2_with fail
      try rw [Exit.noGoto_ret]
      go_ret
      exact ⟨by rw [HE.out]; rfl, D0.out.trans (HB.out.mono (by omega))⟩
end Go.Proofs.YtlannmedefjfhaaGreat

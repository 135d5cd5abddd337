/- The walk of the law QuorumParts. -/
import Derived.Test.YtlannmedefjfhaaGreatQuorumR8
import Derived.Test.YtlannmedefjfhaaGreatQuorumX
namespace Go.Proofs.YtlannmedefjfhaaGreat
open Go.ChangeShapes Go.WideShapes Go.ChangeAt Go.RowKit Gs
set_option linter.unusedVariables false

theorem Part6_any (T N K : Int) [IsU K] (A : Option Addr) (c : Nat) (ps : List (Int × Int)) (hp : ShFix c ps) (M : Option Addr) (cm : Nat) (ms : List Int) (hm : ByFix cm ms) (D : Option Addr) (cd : Nat) (cs : List (Int × Int)) (hc : ShFix cd cs) (x : Int × Int) [IsU x.2] (n : Int) (w : World) (hsp : SS w w.heap.size A ps) (hsm : SI w w.heap.size .u8 M ms) (hsc : SS w w.heap.size D cs) :
    Calls Tryz.prog 23 #[crewV T N K A ps.length c, .agg #[.int .i64 x.1, .int .u64 x.2], .int .i64 n, .slice M ms.length cm, .slice D cs.length cd] w fun e w' => e = .returned (.tuple #[.agg #[.int .i64 (spartV T N K ps x n ms cs).1, .int .u64 (spartV T N K ps x n ms cs).2], .int .i64 (spartF T N K ps x n ms cs)]) ∧ Below w.heap.size w w' := by
  by_cases h : aheadF T N K ps x n cs = 0
  · exact Part6_go T N K A c ps hp M cm ms hm D cd cs hc x n h w hsp hsm hsc
  · have e : spartF T N K ps x n ms cs = aheadF T N K ps x n cs := if_neg h
    have v : spartV T N K ps x n ms cs = (0, 0) := if_neg (by rw [e]; exact h)
    rw [e, v]
    exact Part6_no T N K A c ps hp M cm ms hm D cd cs hc x n h w hsp hsm hsc

set_option maxRecDepth 100000 in
set_option maxHeartbeats 4000000 in
theorem parts_walk6 (T N K : Int) [IsU K] (A : Option Addr) (m c : Nat) (ps : List (Int × Int)) (hpn : ps.length = m) (x : Int × Int) [IsU x.2] (n : Int) (A3 : Option Addr) (c3 : Nat) (xs3 : List Int) (A4 : Option Addr) (n4 c4 : Nat) (l4 : List (Int × Int)) (hn4 : l4.length = n4) (p : Int × Int) [IsU p.2] (w : World) (hs0 : SS w w.heap.size A ps) (hl0 : m ≤ c) (hm0 : c ≤ maxLen) (hu0 : ∀ p ∈ ps, 0 ≤ p.2 ∧ p.2 < 18446744073709551616) (hs3 : SI w w.heap.size .u8 A3 xs3) (hl3 : xs3.length ≤ c3) (hm3 : c3 ≤ maxLen) (hx3 : ∀ n ∈ xs3, (Lit.int .u8 n).wf = true) (hs4 : SS w w.heap.size A4 l4) (hl4 : n4 ≤ c4) (hm4 : c4 ≤ maxLen) (hu4 : ∀ p ∈ l4, 0 ≤ p.2 ∧ p.2 < 18446744073709551616) :
    Calls Tryz.prog 5 #[.agg #[.int .i64 T, .int .i64 N, .int .u64 K, .slice A m c], .agg #[.int .i64 x.1, .int .u64 x.2], .int .i64 n, .slice A3 xs3.length c3, .slice A4 n4 c4, .agg #[.int .i64 p.1, .int .u64 p.2]] w fun e w' => e = .returned (.bool true) ∧ Below w.heap.size w w' := by
  have D0 := Lib.hid ((((Below.refl w.heap.size w).alloc (Nat.le_refl _) (.cells #[.int .i64 T, .int .i64 N, .int .u64 K, .slice A m c] 26)).alloc (by simp) (.cells #[.int .i64 x.1, .int .u64 x.2] 37)).alloc (by simp; omega) (.cells #[.int .i64 p.1, .int .u64 p.2] 37))
  have KC := Lib.hid (((Blk.new w 26 #[.int .i64 T, .int .i64 N, .int .u64 K, .slice A m c]).alloc (.cells #[.int .i64 x.1, .int .u64 x.2] 37)).alloc (.cells #[.int .i64 p.1, .int .u64 p.2] 37))
  have KX := Lib.hid ((Blk.new_at (w.alloc (.cells #[.int .i64 T, .int .i64 N, .int .u64 K, .slice A m c] 26)) 37 #[.int .i64 x.1, .int .u64 x.2] (g := w.heap.size + 1) (by simp)).alloc (.cells #[.int .i64 p.1, .int .u64 p.2] 37))
  have KP := Lib.hid (Blk.new_at ((w.alloc (.cells #[.int .i64 T, .int .i64 N, .int .u64 K, .slice A m c] 26)).alloc (.cells #[.int .i64 x.1, .int .u64 x.2] 37)) 37 #[.int .i64 p.1, .int .u64 p.2] (g := w.heap.size + 2) (by simp))
  have S0 := Lib.hid hs0
  have S3 := Lib.hid hs3
  have S4 := Lib.hid hs4
  by_cases hfew : m ≤ 20 ∧ n4 ≤ 20 ∧ xs3.length ≤ 200
  · have PF := Lib.hid (fun W => few6 T N K A m c A4 n4 c4 A3 xs3.length c3 W true (decide_eq_true hfew))
    have hp : ShFix c ps := ⟨by omega, by omega, hm0, hu0⟩
    have hc : ShFix c4 l4 := ⟨by omega, by omega, hm4, hu4⟩
    have hm : ByFix c3 xs3 := ⟨by omega, hl3, hm3, fun n hn => u8_wf (hx3 n hn)⟩
    have P1 := Lib.hid (fun W a b d => Part_any T N K A c ps hp A3 c3 xs3 hm A4 c4 l4 hc x n W a b d)
    have P2 := Lib.hid (fun W a b d => Part6_any T N K A c ps hp A3 c3 xs3 hm A4 c4 l4 hc x n W a b d)
    have PC := Lib.hid (fun W a b d => CheckPart_any T N K A c ps hp A3 c3 xs3 hm A4 c4 l4 hc p W a b d)
    have PD := Lib.hid (fun W a b d => CheckPart6_any T N K A c ps hp A3 c3 xs3 hm A4 c4 l4 hc p W a b d)
    unfold crewV at PF P1 P2 PC PD
    rw [hpn, hn4] at P1 P2 PC PD
    generalize spartV T N K ps x n xs3 l4 = y at *
    generalize spartF T N K ps x n xs3 l4 = e at *
    generalize cpartF T N K ps xs3 l4 p = z at *
    have b1 : (y.1 == y.1) = true := by simp
    have b2 : (y.2 == y.2) = true := by simp
    have b3 : (e == e) = true := by simp
    have b4 : (z == z) = true := by simp
    clear hs0 hs3 hs4 hx3 hu0 hu4 hfew hpn hn4 hp hc hm
    go_enter Tryz.func5, Tryz.ntmps5
    go_wp2_with fail
    refine (live6 _).mono ?_; rintro _ w1 ⟨rfl, b⟩
    have B1 := Lib.hid (below_on D0.out b)
    have KC1 := Lib.hid (KC.out.below b KC.out.lt)
    have KX1 := Lib.hid (KX.out.below b KX.out.lt)
    have KP1 := Lib.hid (KP.out.below b KP.out.lt)
    clear b
    have k0 := KC1.out.cell 0
    have k1 := KC1.out.cell 1
    have k2 := KC1.out.cell 2
    have k3 := KC1.out.cell 3
    have a0 := KX1.out.cell 0
    have a1 := KX1.out.cell 1
    have j0 := KP1.out.cell 0
    have j1 := KP1.out.cell 1
    go_wp2_with fail
    refine (PF.out _).mono ?_; rintro _ w2 ⟨rfl, b⟩
    have B2 := Lib.hid (below_on B1.out b)
    have KC2 := Lib.hid (KC1.out.below b KC1.out.lt)
    have KX2 := Lib.hid (KX1.out.below b KX1.out.lt)
    have KP2 := Lib.hid (KP1.out.below b KP1.out.lt)
    clear b k0 k1 k2 k3 j0 j1 a0 a1
    have k0 := KC2.out.cell 0
    have k1 := KC2.out.cell 1
    have k2 := KC2.out.cell 2
    have k3 := KC2.out.cell 3
    have a0 := KX2.out.cell 0
    have a1 := KX2.out.cell 1
    have j0 := KP2.out.cell 0
    have j1 := KP2.out.cell 1
    go_wp2_with fail
    refine (P1.out _ (S0.out.on B2.out) (S3.out.on B2.out) (S4.out.on B2.out)).mono ?_; rintro _ w3 ⟨rfl, b⟩
    have KY := Lib.hid (Blk.new w3 37 #[.int .i64 y.1, .int .u64 y.2])
    have b := b.alloc b.size (.cells #[.int .i64 y.1, .int .u64 y.2] 37)
    have B3 := Lib.hid (below_on B2.out b)
    have KC3 := Lib.hid (KC2.out.below b KC2.out.lt)
    have KX3 := Lib.hid (KX2.out.below b KX2.out.lt)
    have KP3 := Lib.hid (KP2.out.below b KP2.out.lt)
    clear b k0 k1 k2 k3 j0 j1 a0 a1
    have k0 := KC3.out.cell 0
    have k1 := KC3.out.cell 1
    have k2 := KC3.out.cell 2
    have k3 := KC3.out.cell 3
    have a0 := KX3.out.cell 0
    have a1 := KX3.out.cell 1
    have j0 := KP3.out.cell 0
    have j1 := KP3.out.cell 1
    go_wp2_with fail
    refine (P2.out _ (S0.out.on B3.out) (S3.out.on B3.out) (S4.out.on B3.out)).mono ?_; rintro _ w4 ⟨rfl, b⟩
    have KZ := Lib.hid (Blk.new w4 37 #[.int .i64 y.1, .int .u64 y.2])
    have b := b.alloc b.size (.cells #[.int .i64 y.1, .int .u64 y.2] 37)
    have KY4 := Lib.hid (KY.out.below b KY.out.lt)
    have B4 := Lib.hid (below_on B3.out b)
    have KC4 := Lib.hid (KC3.out.below b KC3.out.lt)
    have KX4 := Lib.hid (KX3.out.below b KX3.out.lt)
    have KP4 := Lib.hid (KP3.out.below b KP3.out.lt)
    clear b k0 k1 k2 k3 j0 j1 a0 a1
    have k0 := KC4.out.cell 0
    have k1 := KC4.out.cell 1
    have k2 := KC4.out.cell 2
    have k3 := KC4.out.cell 3
    have a0 := KX4.out.cell 0
    have a1 := KX4.out.cell 1
    have j0 := KP4.out.cell 0
    have j1 := KP4.out.cell 1
    have s0 := KY4.out.cell 0
    have s1 := KY4.out.cell 1
    have t0 := KZ.out.cell 0
    have t1 := KZ.out.cell 1
    have hzy := KY4.out.lt
    have hzz := KZ.out.lt
    have hzc := KC4.out.lt
    have hzp := KP4.out.lt
    go_wp2_with fail
    generalize w4.alloc (.cells #[.int .i64 y.1, .int .u64 y.2] 37) = w5 at *
    have hW : Below w5.heap.size w5 w5.drew := (Below.refl w5.heap.size w5).drew
    go_region_held_law (fun w' => (w'.cell? ⟨w.heap.size, 0, none⟩ = some (.int .i64 T) ∧ w'.cell? ⟨w.heap.size, 1, none⟩ = some (.int .i64 N) ∧ w'.cell? ⟨w.heap.size, 2, none⟩ = some (.int .u64 K) ∧ w'.cell? ⟨w.heap.size, 3, none⟩ = some (.slice A m c)) ∧ w'.cell? ⟨w.heap.size + 2, 0, none⟩ = some (.int .i64 p.1) ∧ w'.cell? ⟨w.heap.size + 2, 1, none⟩ = some (.int .u64 p.2) ∧ w'.cell? ⟨w3.heap.size, 0, none⟩ = some (.int .i64 y.1) ∧ w'.cell? ⟨w3.heap.size, 1, none⟩ = some (.int .u64 y.2) ∧ w'.cell? ⟨w4.heap.size, 0, none⟩ = some (.int .i64 y.1) ∧ w'.cell? ⟨w4.heap.size, 1, none⟩ = some (.int .u64 y.2)) (first | exact ⟨⟨by assumption, by assumption, by assumption, by assumption⟩, by assumption, by assumption, by assumption, by assumption, by assumption, by assumption⟩ | go_keep)
      (first
        | (go_at_call 24; refine (PC.out _ (S0.out.on (below_on B4.out hW)) (S3.out.on (below_on B4.out hW)) (S4.out.on (below_on B4.out hW))).mono ?_; rintro _ w6 ⟨rfl, bb⟩; have hW := below_on hW bb; have c0 := (hW.cell (p := ⟨w.heap.size, 0, none⟩) hzc).trans k0; have c1 := (hW.cell (p := ⟨w.heap.size, 1, none⟩) hzc).trans k1; have c2 := (hW.cell (p := ⟨w.heap.size, 2, none⟩) hzc).trans k2; have c3 := (hW.cell (p := ⟨w.heap.size, 3, none⟩) hzc).trans k3; have d0 := (hW.cell (p := ⟨w.heap.size + 2, 0, none⟩) hzp).trans j0; have d1 := (hW.cell (p := ⟨w.heap.size + 2, 1, none⟩) hzp).trans j1; have f0 := (hW.cell (p := ⟨w3.heap.size, 0, none⟩) hzy).trans s0; have f1 := (hW.cell (p := ⟨w3.heap.size, 1, none⟩) hzy).trans s1; have g0 := (hW.cell (p := ⟨w4.heap.size, 0, none⟩) hzz).trans t0; have g1 := (hW.cell (p := ⟨w4.heap.size, 1, none⟩) hzz).trans t1)
        | (go_at_call 25; refine (PD.out _ (S0.out.on (below_on B4.out hW)) (S3.out.on (below_on B4.out hW)) (S4.out.on (below_on B4.out hW))).mono ?_; rintro _ w7 ⟨rfl, bb⟩; have hW := below_on hW bb; have c0 := (hW.cell (p := ⟨w.heap.size, 0, none⟩) hzc).trans k0; have c1 := (hW.cell (p := ⟨w.heap.size, 1, none⟩) hzc).trans k1; have c2 := (hW.cell (p := ⟨w.heap.size, 2, none⟩) hzc).trans k2; have c3 := (hW.cell (p := ⟨w.heap.size, 3, none⟩) hzc).trans k3; have d0 := (hW.cell (p := ⟨w.heap.size + 2, 0, none⟩) hzp).trans j0; have d1 := (hW.cell (p := ⟨w.heap.size + 2, 1, none⟩) hzp).trans j1; have f0 := (hW.cell (p := ⟨w3.heap.size, 0, none⟩) hzy).trans s0; have f1 := (hW.cell (p := ⟨w3.heap.size, 1, none⟩) hzy).trans s1; have g0 := (hW.cell (p := ⟨w4.heap.size, 0, none⟩) hzz).trans t0; have g1 := (hW.cell (p := ⟨w4.heap.size, 1, none⟩) hzz).trans t1))
    all_goals
      have BX := Lib.hid (below_on B4.out hW)
      clear hW k0 k1 k2 k3 j0 j1 a0 a1 s0 s1 t0 t1
      go_wp2_with fail
      go_ret
      exact ⟨by first | rfl | simp, BX.out⟩
  · have PF := Lib.hid (fun W => few6 T N K A m c A4 n4 c4 A3 xs3.length c3 W false (decide_eq_false hfew))
    unfold crewV at PF
    clear hs0 hs3 hs4 hx3 hu0 hu4 hfew
    go_enter Tryz.func5, Tryz.ntmps5
    go_wp2_with fail
    refine (live6 _).mono ?_; rintro _ w1 ⟨rfl, b⟩
    have B1 := Lib.hid (below_on D0.out b)
    have KC1 := Lib.hid (KC.out.below b KC.out.lt)
    have KX1 := Lib.hid (KX.out.below b KX.out.lt)
    have KP1 := Lib.hid (KP.out.below b KP.out.lt)
    clear b
    have k0 := KC1.out.cell 0
    have k1 := KC1.out.cell 1
    have k2 := KC1.out.cell 2
    have k3 := KC1.out.cell 3
    have a0 := KX1.out.cell 0
    have a1 := KX1.out.cell 1
    have j0 := KP1.out.cell 0
    have j1 := KP1.out.cell 1
    go_wp2_with fail
    refine (PF.out _).mono ?_; rintro _ w2 ⟨rfl, b⟩
    have B2 := Lib.hid (below_on B1.out b)
    clear b k0 k1 k2 k3
    go_wp2_with fail
    go_ret
    exact ⟨rfl, B2.out⟩
end Go.Proofs.YtlannmedefjfhaaGreat

/- The document's own answers on a signer's part: what stands ahead. -/
import Derived.Test.YtlannmedefjfhaaGreatQuorumR6
import Derived.Test.YtlannmedefjfhaaGreatQuorumR4
import Derived.Test.YtlannmedefjfhaaGreatQuorumLib
namespace Go.Proofs.YtlannmedefjfhaaGreat
open Go.ChangeShapes Go.WideShapes Go.ChangeAt Go.RowKit Gs
set_option linter.unusedVariables false

theorem ahead_crew {T N K : Int} {ps cs : List (Int × Int)} {x : Int × Int} {n : Int} (h : crewF T N K ps ≠ 0) : aheadF T N K ps x n cs = crewF T N K ps := if_neg h
theorem ahead_sign {T N K : Int} {ps cs : List (Int × Int)} {x : Int × Int} {n : Int} (h : crewF T N K ps = 0) (g : ¬ SignerOk x n) : aheadF T N K ps x n cs = 1 := by
  have e : signerF x n = 1 := if_neg g
  show firstE _ = 1
  unfold firstE
  rw [if_pos h]
  unfold firstE
  rw [e]
  rfl
theorem ahead_may {T N K : Int} {ps cs : List (Int × Int)} {x : Int × Int} {n : Int} (h : crewF T N K ps = 0) (g : SignerOk x n) : aheadF T N K ps x n cs = mayF T N cs := by
  have e : signerF x n = 0 := if_pos g
  show firstE _ = _
  unfold firstE
  rw [if_pos h]
  unfold firstE
  rw [if_pos e]
  rfl

set_option maxRecDepth 100000 in
set_option maxHeartbeats 8000000 in
theorem Part6_no (T N K : Int) [IsU K] (A : Option Addr) (c : Nat) (ps : List (Int × Int)) (hp : ShFix c ps) (M : Option Addr) (cm : Nat) (ms : List Int) (hm : ByFix cm ms) (D : Option Addr) (cd : Nat) (cs : List (Int × Int)) (hc : ShFix cd cs) (x : Int × Int) [IsU x.2] (n : Int) (hne : aheadF T N K ps x n cs ≠ 0) (w : World) (hsp : SS w w.heap.size A ps) (hsm : SI w w.heap.size .u8 M ms) (hsc : SS w w.heap.size D cs) :
    Calls Tryz.prog 23 #[crewV T N K A ps.length c, .agg #[.int .i64 x.1, .int .u64 x.2], .int .i64 n, .slice M ms.length cm, .slice D cs.length cd] w fun e w' => e = .returned (.tuple #[.agg #[.int .i64 0, .int .u64 0], .int .i64 (aheadF T N K ps x n cs)]) ∧ Below w.heap.size w w' := by
  have D0 := Lib.hid ((((Below.refl w.heap.size w).alloc (Nat.le_refl _) (.cells #[.int .i64 T, .int .i64 N, .int .u64 K, .slice A ps.length c] 26)).alloc (by simp) (.cells #[.int .i64 x.1, .int .u64 x.2] 37)).alloc (by simp; omega) (.cells #[.int .i64 0, .int .u64 0] 37))
  have KC := Lib.hid (((Blk.new w 26 #[.int .i64 T, .int .i64 N, .int .u64 K, .slice A ps.length c]).alloc (.cells #[.int .i64 x.1, .int .u64 x.2] 37)).alloc (.cells #[.int .i64 0, .int .u64 0] 37))
  have KX := Lib.hid ((Blk.new_at (w.alloc (.cells #[.int .i64 T, .int .i64 N, .int .u64 K, .slice A ps.length c] 26)) 37 #[.int .i64 x.1, .int .u64 x.2] (g := w.heap.size + 1) (by simp)).alloc (.cells #[.int .i64 0, .int .u64 0] 37))
  have KR := Lib.hid (Blk.new_at ((w.alloc (.cells #[.int .i64 T, .int .i64 N, .int .u64 K, .slice A ps.length c] 26)).alloc (.cells #[.int .i64 x.1, .int .u64 x.2] 37)) 37 #[.int .i64 0, .int .u64 0] (g := w.heap.size + 2) (by simp))
  have k0 := KC.out.cell 0
  have k1 := KC.out.cell 1
  have k2 := KC.out.cell 2
  have k3 := KC.out.cell 3
  have HSP := Lib.hid hsp
  have HSM := Lib.hid hsm
  have HSC := Lib.hid hsc
  have P1 := Lib.hid (fun W h => Check6_any T N K A c ps hp W h)
  have P3 := Lib.hid (fun W h => may6_any T N K A ps.length c D cd cs hc W h)
  unfold crewV at P1 P3 ⊢
  by_cases h1 : crewF T N K ps ≠ 0
  · rw [ahead_crew h1]
    have q1 : (crewF T N K ps == 0) = false := by simpa using h1
    clear hsp hsm hsc hp hm hc h1 hne
    generalize crewF T N K ps = e1 at *
    go_enter Tryz.func23, Tryz.ntmps23
    go_wp2_with fail
    refine (P1.out _ (HSP.out.on D0.out)).mono ?_; rintro _ w1 ⟨rfl, b⟩
    have B1 := Lib.hid (below_on D0.out b)
    have KC1 := Lib.hid (KC.out.below b KC.out.lt)
    have KX1 := Lib.hid (KX.out.below b KX.out.lt)
    have KR1 := Lib.hid (KR.out.below b KR.out.lt)
    clear b k0 k1 k2 k3
    have f0 := KR1.out.free 0
    have f1 := KR1.out.free 1
    have r0 := KR1.out.cell 0
    have r1 := KR1.out.cell 1
    have hlt := KR1.out.lt
    go_wp2_with fail
    have hk := (KR1.out.set 0 (.int .i64 0)).set 1 (.int .u64 0)
    have g0 := hk.cell 0
    have g1 := hk.cell 1
    refine bodyPost_ret (v := .tuple #[.agg #[.int .i64 0, .int .u64 0], .int .i64 (e1)]) (by simp [results, Tryz.results23, go_sem, g0, g1]) rfl ?_
    exact ⟨rfl, below_setR (below_setR B1.out (by omega) _) (by omega) _⟩
  replace h1 : crewF T N K ps = 0 := Classical.not_not.1 h1
  rw [h1] at P1
  by_cases h2 : ¬ SignerOk x n
  · rw [ahead_sign h1 h2]
    have P2 := Lib.hid (fun W (_ : SI W W.heap.size .u8 M ms) => Commit6_no x n h2 M ms.length cm W)
    clear hsp hsm hsc hp hm hc h1 h2 hne
    go_enter Tryz.func23, Tryz.ntmps23
    go_wp2_with fail
    refine (P1.out _ (HSP.out.on D0.out)).mono ?_; rintro _ w1 ⟨rfl, b⟩
    have B1 := Lib.hid (below_on D0.out b)
    have KC1 := Lib.hid (KC.out.below b KC.out.lt)
    have KX1 := Lib.hid (KX.out.below b KX.out.lt)
    have KR1 := Lib.hid (KR.out.below b KR.out.lt)
    clear b k0 k1 k2 k3
    have a0 := KX1.out.cell 0
    have a1 := KX1.out.cell 1
    go_wp2_with fail
    refine (P2.out _ (HSM.out.on B1.out)).mono ?_; rintro _ w2 ⟨rfl, b⟩
    have b' := b.alloc b.size (.cells #[.int .i64 0, .int .u64 0] 37)
    have B2 := Lib.hid (below_on B1.out b')
    have KC2 := Lib.hid (KC1.out.below b' KC1.out.lt)
    have KX2 := Lib.hid (KX1.out.below b' KX1.out.lt)
    have KR2 := Lib.hid (KR1.out.below b' KR1.out.lt)
    clear b b' a0 a1
    have f0 := KR2.out.free 0
    have f1 := KR2.out.free 1
    have r0 := KR2.out.cell 0
    have r1 := KR2.out.cell 1
    have hlt := KR2.out.lt
    go_wp2_with fail
    have hk := (KR2.out.set 0 (.int .i64 0)).set 1 (.int .u64 0)
    have g0 := hk.cell 0
    have g1 := hk.cell 1
    refine bodyPost_ret (v := .tuple #[.agg #[.int .i64 0, .int .u64 0], .int .i64 (1)]) (by simp [results, Tryz.results23, go_sem, g0, g1]) rfl ?_
    exact ⟨rfl, below_setR (below_setR B2.out (by omega) _) (by omega) _⟩
  replace h2 : SignerOk x n := Classical.not_not.1 h2
  rw [ahead_may h1 h2] at hne ⊢
  have q1 : (mayF T N cs == 0) = false := by simpa using hne
  have P2 := Lib.hid (fun W h => Commit6_ok x n h2 M cm ms hm W h)
  clear hsp hsm hsc hp hm hc h1 h2 hne
  generalize qcom x n ms = y at *
  generalize mayF T N cs = e1 at *
  go_enter Tryz.func23, Tryz.ntmps23
  go_wp2_with fail
  refine (P1.out _ (HSP.out.on D0.out)).mono ?_; rintro _ w1 ⟨rfl, b⟩
  have B1 := Lib.hid (below_on D0.out b)
  have KC1 := Lib.hid (KC.out.below b KC.out.lt)
  have KX1 := Lib.hid (KX.out.below b KX.out.lt)
  have KR1 := Lib.hid (KR.out.below b KR.out.lt)
  clear b k0 k1 k2 k3
  have a0 := KX1.out.cell 0
  have a1 := KX1.out.cell 1
  go_wp2_with fail
  refine (P2.out _ (HSM.out.on B1.out)).mono ?_; rintro _ w2 ⟨rfl, b⟩
  have b' := b.alloc b.size (.cells #[.int .i64 y.1, .int .u64 y.2] 37)
  have B2 := Lib.hid (below_on B1.out b')
  have KC2 := Lib.hid (KC1.out.below b' KC1.out.lt)
  have KX2 := Lib.hid (KX1.out.below b' KX1.out.lt)
  have KR2 := Lib.hid (KR1.out.below b' KR1.out.lt)
  clear b b' a0 a1
  have k0 := KC2.out.cell 0
  have k1 := KC2.out.cell 1
  have k2 := KC2.out.cell 2
  have k3 := KC2.out.cell 3
  go_wp2_with fail
  refine (P3.out _ (HSC.out.on B2.out)).mono ?_; rintro _ w3 ⟨rfl, b⟩
  have B3 := Lib.hid (below_on B2.out b)
  have KC3 := Lib.hid (KC2.out.below b KC2.out.lt)
  have KX3 := Lib.hid (KX2.out.below b KX2.out.lt)
  have KR3 := Lib.hid (KR2.out.below b KR2.out.lt)
  clear b k0 k1 k2 k3
  have f0 := KR3.out.free 0
  have f1 := KR3.out.free 1
  have r0 := KR3.out.cell 0
  have r1 := KR3.out.cell 1
  have hlt := KR3.out.lt
  go_wp2_with fail
  have hk := (KR3.out.set 0 (.int .i64 0)).set 1 (.int .u64 0)
  have g0 := hk.cell 0
  have g1 := hk.cell 1
  refine bodyPost_ret (v := .tuple #[.agg #[.int .i64 0, .int .u64 0], .int .i64 (e1)]) (by simp [results, Tryz.results23, go_sem, g0, g1]) rfl ?_
  exact ⟨rfl, below_setR (below_setR B3.out (by omega) _) (by omega) _⟩
end Go.Proofs.YtlannmedefjfhaaGreat

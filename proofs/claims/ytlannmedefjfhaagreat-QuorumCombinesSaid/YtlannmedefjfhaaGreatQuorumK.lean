/- What a signer commits to; what is told of a part; what parts are combined to. -/
import Derived.Test.YtlannmedefjfhaaGreatQuorumE
import Derived.Test.YtlannmedefjfhaaGreatQuorumJ
namespace Go.Proofs.YtlannmedefjfhaaGreat
open Go.ChangeShapes Go.WideShapes Go.ChangeAt Go.RowKit Gs
set_option linter.unusedVariables false

set_option maxRecDepth 100000 in
set_option maxHeartbeats 8000000 in
theorem Commit_ok (x : Int × Int) (n : Int) [IsU x.2] (h : SignerOk x n) (A : Option Addr) (c : Nat) (ms : List Int) (hm : ByFix c ms) (w : World) (hs : SI w w.heap.size .u8 A ms) :
    Calls Tryz.prog 20 #[.agg #[.int .i64 x.1, .int .u64 x.2], .int .i64 n, .slice A ms.length c] w fun e w' => e = .returned (.tuple #[.agg #[.int .i64 (qcom x n ms).1, .int .u64 (qcom x n ms).2], .int .i64 0]) ∧ Below w.heap.size w w' := by
  have D0 := Lib.hid ((((Below.refl w.heap.size w).alloc (Nat.le_refl _) (.cells #[.int .i64 x.1, .int .u64 x.2] 37)).alloc (by simp) (.cells #[.int .i64 0, .int .u64 0] 37)).alloc (by simp; omega) (.cells #[.int .i64 x.1, .int .u64 x.2, .int .i64 n, .slice A ms.length c] 73))
  have K1 := Lib.hid (((Blk.new w 37 #[.int .i64 x.1, .int .u64 x.2]).alloc (.cells #[.int .i64 0, .int .u64 0] 37)).alloc (.cells #[.int .i64 x.1, .int .u64 x.2, .int .i64 n, .slice A ms.length c] 73))
  have K2 := Lib.hid ((Blk.new_at (w.alloc (.cells #[.int .i64 x.1, .int .u64 x.2] 37)) 37 #[.int .i64 0, .int .u64 0] (g := w.heap.size + 1) (by simp)).alloc (.cells #[.int .i64 x.1, .int .u64 x.2, .int .i64 n, .slice A ms.length c] 73))
  have K3 := Lib.hid (Blk.new_at ((w.alloc (.cells #[.int .i64 x.1, .int .u64 x.2] 37)).alloc (.cells #[.int .i64 0, .int .u64 0] 37)) 73 #[.int .i64 x.1, .int .u64 x.2, .int .i64 n, .slice A ms.length c] (g := w.heap.size + 2) (by simp))
  have HS := Lib.hid (hs.on D0.out)
  have P1 := Lib.hid (tmay_ok x n A ms.length c h)
  have P2 := Lib.hid (fun W hW => qnonce_any x n h A c ms hm.u hm.len hm.cap hm.max W hW)
  have P3 := Lib.hid (Base_q (qnonce x n ms))
  show Calls _ _ _ _ fun e w' => e = .returned (.tuple #[.agg #[.int .i64 x.1, .int .u64 (qpow 4 (qnonce x n ms))], .int .i64 0]) ∧ _
  generalize qnonce x n ms = qn at *
  generalize qpow 4 qn = z at *
  clear hs hm h
  go_enter Tryz.func20, Tryz.ntmps20
  go_wp2_with fail
  refine (P1.out _).mono ?_; rintro _ w1 ⟨rfl, b⟩
  have B1 := Lib.hid (below_on D0.out b)
  have HS1 := Lib.hid (HS.out.on b)
  have k1 := K1.out.below b K1.out.lt
  have k2 := K2.out.below b K2.out.lt
  have k3 := K3.out.below b K3.out.lt
  have a0 := k1.cell 0
  have b0 := k3.cell 0
  have b1 := k3.cell 1
  have b2 := k3.cell 2
  have b3 := k3.cell 3
  have hz1 := k1.lt
  have hz2 := k2.lt
  have hz3 := k3.lt
  have K2' := Lib.hid k2
  clear b k1 k2 k3 K1 K2 K3 HS D0
  go_wp2_with fail
  have hW : Below w1.heap.size w1 w1.drew := (Below.refl w1.heap.size w1).drew
  go_cut [7] (fun s7 wx => s7 = .int .i64 0 ∧ Blk wx (w.heap.size + 1) 37 #[.int .i64 x.1, .int .u64 z] ∧ Below w.heap.size w wx)
  case first =>
    go_region_held_law (fun w' => w'.cell? ⟨w.heap.size, 0, none⟩ = some (.int .i64 x.1) ∧ w'.cell? ⟨w.heap.size + 2, 0, none⟩ = some (.int .i64 x.1) ∧ w'.cell? ⟨w.heap.size + 2, 1, none⟩ = some (.int .u64 x.2) ∧ w'.cell? ⟨w.heap.size + 2, 2, none⟩ = some (.int .i64 n) ∧ w'.cell? ⟨w.heap.size + 2, 3, none⟩ = some (.slice A ms.length c)) (first | exact ⟨by assumption, by assumption, by assumption, by assumption, by assumption⟩ | exact ⟨cell_setA (by simp only []; omega) (by assumption), cell_setA (by simp only []; omega) (by assumption), cell_setA (by simp only []; omega) (by assumption), cell_setA (by simp only []; omega) (by assumption), cell_setA (by simp only []; omega) (by assumption)⟩ | go_keep)
      (first
        | (go_at_call 49; refine (P2.out _ (HS1.out.on hW)).mono ?_; rintro _ w5 ⟨rfl, b5⟩; have hW := below_on hW b5; have e0 := (hW.cell (p := ⟨w.heap.size, 0, none⟩) hz1).trans a0; have d0 := (hW.cell (p := ⟨w.heap.size + 2, 0, none⟩) hz3).trans b0; have d1 := (hW.cell (p := ⟨w.heap.size + 2, 1, none⟩) hz3).trans b1; have d2 := (hW.cell (p := ⟨w.heap.size + 2, 2, none⟩) hz3).trans b2; have d3 := (hW.cell (p := ⟨w.heap.size + 2, 3, none⟩) hz3).trans b3)
        | (go_at_call 34; refine (P3.out _).mono ?_; rintro _ w6 ⟨rfl, b5⟩; have hW := below_on hW b5; have e0 := (hW.cell (p := ⟨w.heap.size, 0, none⟩) hz1).trans a0; have d0 := (hW.cell (p := ⟨w.heap.size + 2, 0, none⟩) hz3).trans b0; have d1 := (hW.cell (p := ⟨w.heap.size + 2, 1, none⟩) hz3).trans b1; have d2 := (hW.cell (p := ⟨w.heap.size + 2, 2, none⟩) hz3).trans b2; have d3 := (hW.cell (p := ⟨w.heap.size + 2, 3, none⟩) hz3).trans b3; have HK := K2'.out.below hW K2'.out.lt; (obtain ⟨⟨g0, g1⟩, f0, f1⟩ := HK.facts2)))
    all_goals
      clear e0 d0 d1 d2 d3 a0 b0 b1 b2 b3
      go_wp2_with fail
      go_meet
      exact ⟨rfl, (K2'.out.below hW K2'.out.lt).set2, below_setR (below_setR (B1.out.trans (hW.mono B1.out.size)) (by omega) _) (by omega) _⟩
  case rest =>
    obtain ⟨rfl, hk, hB⟩ := hcut
    have h := hk.facts2.1
    go_wp2_with fail
    refine bodyPost_ret (v := .tuple #[.agg #[.int .i64 x.1, .int .u64 z], .int .i64 0]) (by simp [results, Tryz.results20, go_sem, h.1, h.2]) rfl ⟨rfl, hB⟩

theorem Commit_no (x : Int × Int) (n : Int) (h : ¬ SignerOk x n) (A : Option Addr) (m c : Nat) (w : World) :
    Calls Tryz.prog 20 #[.agg #[.int .i64 x.1, .int .u64 x.2], .int .i64 n, .slice A m c] w fun e w' => e = .returned (.tuple #[.agg #[.int .i64 0, .int .u64 0], .int .i64 1]) ∧ Below w.heap.size w w' := by
  have D0 := Lib.hid ((((Below.refl w.heap.size w).alloc (Nat.le_refl _) (.cells #[.int .i64 x.1, .int .u64 x.2] 37)).alloc (by simp) (.cells #[.int .i64 0, .int .u64 0] 37)).alloc (by simp; omega) (.cells #[.int .i64 x.1, .int .u64 x.2, .int .i64 n, .slice A m c] 73))
  have K2 := Lib.hid ((Blk.new_at (w.alloc (.cells #[.int .i64 x.1, .int .u64 x.2] 37)) 37 #[.int .i64 0, .int .u64 0] (g := w.heap.size + 1) (by simp)).alloc (.cells #[.int .i64 x.1, .int .u64 x.2, .int .i64 n, .slice A m c] 73))
  have P1 := Lib.hid (tmay_no x n A m c h)
  clear h
  go_enter Tryz.func20, Tryz.ntmps20
  go_wp2_with fail
  refine (P1.out _).mono ?_; rintro _ w1 ⟨rfl, b⟩
  have B1 := Lib.hid (below_on D0.out b)
  have K2' := Lib.hid (K2.out.below b K2.out.lt)
  obtain ⟨⟨g0, g1⟩, f0, f1⟩ := K2'.out.facts2
  clear b K2
  go_wp2_with fail
  have h := (K2'.out.set2 (x' := .int .i64 0) (y' := .int .u64 0)).facts2.1
  refine bodyPost_ret (v := .tuple #[.agg #[.int .i64 0, .int .u64 0], .int .i64 1]) (by simp [results, Tryz.results20, go_sem, h.1, h.2]) rfl ⟨rfl, ?_⟩
  exact below_setR (below_setR B1.out (by omega) _) (by omega) _

end Go.Proofs.YtlannmedefjfhaaGreat

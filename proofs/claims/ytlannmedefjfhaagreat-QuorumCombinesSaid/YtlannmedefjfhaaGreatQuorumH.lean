/- What package quorum tells of one part: whether it is of one that has committed. -/
import Derived.Test.YtlannmedefjfhaaGreatQuorumG
import Derived.Deep.DeepCutAuto
import Derived.Deep.RegionWith
namespace Go.Proofs.YtlannmedefjfhaaGreat
open Go.ChangeShapes Go.WideShapes Go.ChangeAt Go.RowKit Gs
set_option linter.unusedVariables false

set_option maxRecDepth 100000 in
set_option maxHeartbeats 4000000 in
theorem isOfOne_any (T N K : Int) (A : Option Addr) (n c : Nat) (M : Option Addr) (m cm : Nat) (D : Option Addr) (cd : Nat) (cs : List (Int × Int)) (hc : ShFix cd cs) (p : Int × Int) (r : Int) (hr : (p.1 ∈ cs.map Prod.fst ∧ p.2 < 1152921504606845789 ∧ r = 0) ∨ (¬ (p.1 ∈ cs.map Prod.fst ∧ p.2 < 1152921504606845789) ∧ r = 1)) (w : World) (hs : SS w w.heap.size D cs) :
    Calls Tryz.prog 115 #[roundV T N K A n c M m cm D cs.length cd, .agg #[.int .i64 p.1, .int .u64 p.2]] w fun e w' => e = .returned (.int .i64 r) ∧ Below w.heap.size w w' := by
  unfold roundV
  have D0 := Lib.hid (((Below.refl w.heap.size w).alloc (Nat.le_refl _) (.cells #[.int .i64 T, .int .i64 N, .int .u64 K, .slice A n c, .slice M m cm, .slice D cs.length cd] 77)).alloc (by simp) (.cells #[.int .i64 p.1, .int .u64 p.2] 37))
  have k5 := ((Blk.new w 77 #[.int .i64 T, .int .i64 N, .int .u64 K, .slice A n c, .slice M m cm, .slice D cs.length cd]).alloc (.cells #[.int .i64 p.1, .int .u64 p.2] 37)).cell 5
  have KB2 := Blk.new_at (w.alloc (.cells #[.int .i64 T, .int .i64 N, .int .u64 K, .slice A n c, .slice M m cm, .slice D cs.length cd] 77)) 37 #[.int .i64 p.1, .int .u64 p.2] (g := w.heap.size + 1) (by simp)
  have j0 := KB2.cell 0
  have j1 := KB2.cell 1
  have HC := Lib.hid hs
  have P1 := Lib.hid (fun W (h : SS W W.heap.size D cs) => each_ids D cs.length cd cs rfl hc.len W h)
  have hJl : (cs.map Prod.fst).length ≤ 1048576 := by have := hc.len; simpa using this
  have P2 := Lib.hid (fun A c W h => contains_int A (cs.map Prod.fst).length c (cs.map Prod.fst) rfl hJl p.1 W h)
  clear KB2 hs hJl
  generalize cs.map Prod.fst = J at *
  have hcl : cs.length ≤ 1048576 := hc.len
  clear hc
  rcases hr with ⟨h1, h2, rfl⟩ | ⟨h, rfl⟩
  · rw [decide_eq_true h1] at P2
    clear h1
    go_enter Tryz.func115, Tryz.ntmps115
    go_wp2_with fail
    refine wp_named (fun W => W.cell? ⟨w.heap.size, 5, none⟩ = some (.slice D cs.length cd) ∧ W.cell? ⟨w.heap.size + 1, 0, none⟩ = some (.int .i64 p.1) ∧ W.cell? ⟨w.heap.size + 1, 1, none⟩ = some (.int .u64 p.2) ∧ Below w.heap.size w W ∧ w.heap.size + 1 < W.heap.size) ⟨k5, j0, j1, D0.out, by simp⟩ ?_
    clear k5 j0 j1 D0
    rintro W ⟨k5, j0, j1, hD, hz⟩
    have D0 := Lib.hid hD
    have HC1 := Lib.hid (HC.out.on hD)
    clear hD
    have hd : W.heap.size ≤ W.drew.heap.size := Nat.le_refl _
    go_region_held_law (fun w' => w'.cell? ⟨w.heap.size, 5, none⟩ = some (.slice D cs.length cd) ∧ w'.cell? ⟨w.heap.size + 1, 0, none⟩ = some (.int .i64 p.1) ∧ w'.cell? ⟨w.heap.size + 1, 1, none⟩ = some (.int .u64 p.2)) (first | exact ⟨by assumption, by assumption, by assumption⟩ | go_keep)
      (first
        | (go_at_call 68; refine (P1.out _ (HC1.out.on ((Below.refl _ _).drew))).mono ?_; rintro _ w5 ⟨v5, rfl, ho5, b5⟩; obtain ⟨A5, c5, rfl, q1, q2, hs5, _⟩ := own_sliceI ho5; have hW := (Below.refl W.heap.size W).drew.trans (b5.mono (by omega)); have e5 := (hW.cell (p := ⟨w.heap.size, 5, none⟩) (by simp only []; omega)).trans k5; have e0 := (hW.cell (p := ⟨w.heap.size + 1, 0, none⟩) hz).trans j0; have e1 := (hW.cell (p := ⟨w.heap.size + 1, 1, none⟩) hz).trans j1)
        | (go_at_call 121; refine (P2.out A5 c5 _ hs5).mono ?_; rintro _ w6 ⟨rfl, b6⟩; have hW := hW.trans (b6.mono hW.size); have e5 := (hW.cell (p := ⟨w.heap.size, 5, none⟩) (by simp only []; omega)).trans k5; have e0 := (hW.cell (p := ⟨w.heap.size + 1, 0, none⟩) hz).trans j0; have e1 := (hW.cell (p := ⟨w.heap.size + 1, 1, none⟩) hz).trans j1))
    have HX := Lib.hid (D0.out.trans (hW.mono D0.out.size))
    clear hW e5 e0 e1 k5 j0 j1
    go_wp2_with fail
    go_ret
    exact ⟨by rfl, HX.out⟩
  · by_cases h1 : p.1 ∈ J
    · have h2 : 1152921504606845789 ≤ p.2 := by
        by_cases g : p.2 < 1152921504606845789
        · exact absurd ⟨h1, g⟩ h
        · omega
      rw [decide_eq_true h1] at P2
      clear h1 h
      go_enter Tryz.func115, Tryz.ntmps115
      go_wp2_with fail
      refine wp_named (fun W => W.cell? ⟨w.heap.size, 5, none⟩ = some (.slice D cs.length cd) ∧ W.cell? ⟨w.heap.size + 1, 0, none⟩ = some (.int .i64 p.1) ∧ W.cell? ⟨w.heap.size + 1, 1, none⟩ = some (.int .u64 p.2) ∧ Below w.heap.size w W ∧ w.heap.size + 1 < W.heap.size) ⟨k5, j0, j1, D0.out, by simp⟩ ?_
      clear k5 j0 j1 D0
      rintro W ⟨k5, j0, j1, hD, hz⟩
      have D0 := Lib.hid hD
      have HC1 := Lib.hid (HC.out.on hD)
      clear hD
      have hd : W.heap.size ≤ W.drew.heap.size := Nat.le_refl _
      go_region_held_law (fun w' => w'.cell? ⟨w.heap.size, 5, none⟩ = some (.slice D cs.length cd) ∧ w'.cell? ⟨w.heap.size + 1, 0, none⟩ = some (.int .i64 p.1) ∧ w'.cell? ⟨w.heap.size + 1, 1, none⟩ = some (.int .u64 p.2)) (first | exact ⟨by assumption, by assumption, by assumption⟩ | go_keep)
        (first
          | (go_at_call 68; refine (P1.out _ (HC1.out.on ((Below.refl _ _).drew))).mono ?_; rintro _ w5 ⟨v5, rfl, ho5, b5⟩; obtain ⟨A5, c5, rfl, q1, q2, hs5, _⟩ := own_sliceI ho5; have hW := (Below.refl W.heap.size W).drew.trans (b5.mono (by omega)); have e5 := (hW.cell (p := ⟨w.heap.size, 5, none⟩) (by simp only []; omega)).trans k5; have e0 := (hW.cell (p := ⟨w.heap.size + 1, 0, none⟩) hz).trans j0; have e1 := (hW.cell (p := ⟨w.heap.size + 1, 1, none⟩) hz).trans j1)
          | (go_at_call 121; refine (P2.out A5 c5 _ hs5).mono ?_; rintro _ w6 ⟨rfl, b6⟩; have hW := hW.trans (b6.mono hW.size); have e5 := (hW.cell (p := ⟨w.heap.size, 5, none⟩) (by simp only []; omega)).trans k5; have e0 := (hW.cell (p := ⟨w.heap.size + 1, 0, none⟩) hz).trans j0; have e1 := (hW.cell (p := ⟨w.heap.size + 1, 1, none⟩) hz).trans j1))
      have HX := Lib.hid (D0.out.trans (hW.mono D0.out.size))
      clear hW e5 e0 e1 k5 j0 j1
      go_wp2_with fail
      go_ret
      exact ⟨by rfl, HX.out⟩
    · rw [decide_eq_false h1] at P2
      clear h1 h
      go_enter Tryz.func115, Tryz.ntmps115
      go_wp2_with fail
      refine wp_named (fun W => W.cell? ⟨w.heap.size, 5, none⟩ = some (.slice D cs.length cd) ∧ W.cell? ⟨w.heap.size + 1, 0, none⟩ = some (.int .i64 p.1) ∧ W.cell? ⟨w.heap.size + 1, 1, none⟩ = some (.int .u64 p.2) ∧ Below w.heap.size w W ∧ w.heap.size + 1 < W.heap.size) ⟨k5, j0, j1, D0.out, by simp⟩ ?_
      clear k5 j0 j1 D0
      rintro W ⟨k5, j0, j1, hD, hz⟩
      have D0 := Lib.hid hD
      have HC1 := Lib.hid (HC.out.on hD)
      clear hD
      have hd : W.heap.size ≤ W.drew.heap.size := Nat.le_refl _
      first
        | (go_region_with
            (first
              | (go_at_call 68; refine (P1.out _ (HC1.out.on ((Below.refl _ _).drew))).mono ?_; rintro _ w5 ⟨v5, rfl, ho5, b5⟩; obtain ⟨A5, c5, rfl, q1, q2, hs5, _⟩ := own_sliceI ho5; have hW := (Below.refl W.heap.size W).drew.trans (b5.mono (by omega)); have e5 := (hW.cell (p := ⟨w.heap.size, 5, none⟩) (by simp only []; omega)).trans k5; have e0 := (hW.cell (p := ⟨w.heap.size + 1, 0, none⟩) hz).trans j0; have e1 := (hW.cell (p := ⟨w.heap.size + 1, 1, none⟩) hz).trans j1)
              | (go_at_call 121; refine (P2.out A5 c5 _ hs5).mono ?_; rintro _ w6 ⟨rfl, b6⟩; have hW := hW.trans (b6.mono hW.size); have e5 := (hW.cell (p := ⟨w.heap.size, 5, none⟩) (by simp only []; omega)).trans k5; have e0 := (hW.cell (p := ⟨w.heap.size + 1, 0, none⟩) hz).trans j0; have e1 := (hW.cell (p := ⟨w.heap.size + 1, 1, none⟩) hz).trans j1)))
        | fail "not walked"
      all_goals
        have HX := Lib.hid (D0.out.trans (hW.mono D0.out.size))
        clear hW e5 e0 e1 k5 j0 j1
        go_wp2_with fail
        go_ret
        exact ⟨by rfl, HX.out⟩
end Go.Proofs.YtlannmedefjfhaaGreat

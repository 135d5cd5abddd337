/- slices.Insert of one element, at greatseal/api.Spent. (Printed by tools/gen_ins.py.) -/
import Derived.Test.YtnjmhijfaijopaaBudgetA
import Derived.Test.YtnjmhijfaijopaaSl
import Derived.Shelf.Spec.SlicesInsert
namespace Go.Proofs.Ytnjmhijfaijopaa
open Go.ChangeShapes Go.WideShapes Go.ChangeAt Go.RowKit Gs
set_option linter.unusedVariables false
set_option linter.unusedSimpArgs false

theorem Try.info45 : (Try.prog.info? 45).map (fun i => (i.zero, i.size, i.bytes)) = some (some (.agg #[.int .i64 0, .int .i64 0, .int .i64 0, .int .i64 0]), 4, 32) := by kernel_rfl
set_option maxHeartbeats 4000000 in
theorem Insert_end (B : Nat) (A : Option Addr) (n c : Nat) (cs xs : List Value) (vb : Nat) (hn : n ≤ 1048576) (w : World) (hB : B ≤ w.heap.size)
    (ho : w.ownsRow B 45 4 (.slice A n c) n cs) (hx : Blk w vb 45 xs.toArray) (hxl : xs.length = 4) (hx1 : ∀ u ∈ xs, u.oneCell' = true) :
    Calls Try.prog 35 #[.slice A n c, .int .i64 n, .slice (some ⟨vb, 0, none⟩) 1 1] w fun e w' => ∃ v', e = .returned v' ∧ w'.ownsRow B 45 4 v' (n + 1) (cs ++ xs) ∧ Below B w w' := by
  have HO := Lib.hid ho
  have HX := Lib.hid hx
  have HR := Lib.hid (show Reads w (vb + 1) 4 (some ⟨vb, 0, none⟩) 1 xs from ⟨by rw [hxl], fun _ => ⟨_, rfl, Nat.lt_succ_self _, fun j u hu => rowK_read hx xs 0 (fun j v h => by simpa using h) j u hu⟩⟩)
  have HX1 := Lib.hid hx1
  clear hx1
  obtain ⟨i0, hi, hz0, hz1, hz2⟩ := info_parts Try.info45
  have HI := Lib.hid (And.intro hi (And.intro hz0 (And.intro hz1 hz2)))
  have hw : (n : Int) ≤ 1048576 := by omega
  clear ho hx hxl hi hz0 hz1 hz2
  have HG := Lib.hid (own_ge HO.out)
  by_cases hcn : c = n
  all_goals
    go_enter Try.func35, Try.ntmps35
    go_wp2_with (at_builtin; first | (refine wpList_append_any _ (by rfl) _ _ 22 (by rfl) B 45 i0 (.agg #[.int .i64 0, .int .i64 0, .int .i64 0, .int .i64 0]) 4 32 Try.underlying22 HI.out.1 HI.out.2.1 HI.out.2.2.1 HI.out.2.2.2 (by rfl) (by decide) _ n cs (by rfl) HO.out _ _ 1 _ xs (by rfl) HR.out HX1.out (by unfold maxLen; omega) (by omega) (by omega) ?_; intro v4 w4 ho4 hg4 hw4; have HO4 := Lib.hid ho4; have HG4 := Lib.hid hg4; clear ho4 hg4 hw4) | fail)
    go_wp2_with fail
    go_ret
    exact ⟨_, rfl, HO4.out, (Below.refl _ w).grown HG4.out hB (by intro k hk; exact HG.out k hk)⟩
set_option maxHeartbeats 8000000 in
theorem Insert_room (B g : Nat) (n i c : Nat) (cs xs : List Value) (vb : Nat) (hi : i < n) (hn : n ≤ 1048576) (hroom : n + 1 ≤ c) (hcm : c ≤ maxLen) (w : World) (hB : B ≤ g)
    (ho : w.ownsRow B 45 4 (.slice (some ⟨g, 0, none⟩) n c) n cs) (hc1 : ∀ u ∈ cs, u.oneCell' = true) (hx : Blk w vb 45 xs.toArray) (hxl : xs.length = 4) (hx1 : ∀ u ∈ xs, u.oneCell' = true) (hvb : vb ≠ g) :
    Calls Try.prog 35 #[.slice (some ⟨g, 0, none⟩) n c, .int .i64 i, .slice (some ⟨vb, 0, none⟩) 1 1] w fun e w' => ∃ v', e = .returned v' ∧ w'.ownsRow B 45 4 v' (n + 1) (cs.take (i * 4) ++ xs ++ cs.drop (i * 4)) ∧ Below B w w' := by
  have hcl : cs.length = n * 4 := ho.1
  obtain ⟨cur, hblk, hcs, htk⟩ : ∃ cur, Blk w g 45 cur ∧ cur.size = c * 4 ∧ cur.toList.take (n * 4) = cs := by
    rcases ho.2 with ⟨hv, h0⟩ | ⟨g', cap, cur, hv, _, hblk, _, _, hcs, htk⟩
    · omega
    · cases hv; exact ⟨cur, hblk, hcs, htk⟩
  unfold maxLen at hcm
  obtain ⟨i0, hi0, hz0, hz1, hz2⟩ := info_parts Try.info45
  have hsz : (Try.prog.info? 45).map (·.size) = some 4 := by rw [hi0]; simp [hz1]
  have hov : ∀ (W : World), Blk W g 45 cur → Blk W vb 45 xs.toArray → ∀ lb cb, (callFunc 49 #[.slice (some ⟨vb, 0, none⟩) 1 1, .slice (some ⟨g, (i + 1) * 4, none⟩) lb cb]).run Try.prog W = .ok (.value (.bool false)) W := fun W hW1 hW2 lb cb => by
    rw [run_callFunc_extern Try.func49 (by kernel_rfl) (by kernel_rfl) (by kernel_rfl) (e := Extern.SlicesOverlaps.overlaps #[22, 22] #[4]) (by kernel_rfl),
      Lib.run_overlaps_apart W 22 4 45 Try.underlying22 4 (fun w => by kernel_rfl) ⟨vb, 0, none⟩ ⟨g, (i + 1) * 4, none⟩ 1 1 lb cb hvb 45 45 4 (c * 4) (by unfold Blk at hW2; simp [World.shape?, hW2, hxl]) (by unfold Blk at hW1; simp [World.shape?, hW1, hcs]) (by omega) (hW2.free 0) (hW2.free 4)]
    rfl
  have hdl : (cs.drop (i * 4)).length = (n - i) * 4 := by rw [List.length_drop, hcl]; omega
  obtain ⟨R1, hR1⟩ : ∃ R1 : Array Value, R1 = (cur.toList.take (i * 4 + 4) ++ cs.drop (i * 4) ++ cur.toList.drop (i * 4 + 4 + (cs.drop (i * 4)).length)).toArray := ⟨_, rfl⟩
  obtain ⟨R2, hR2⟩ : ∃ R2 : Array Value, R2 = (R1.toList.take (i * 4) ++ xs ++ R1.toList.drop (i * 4 + xs.length)).toArray := ⟨_, rfl⟩
  have hR1s : R1.size = c * 4 := by rw [hR1]; simp [hcs]; omega
  have hR2s : R2.size = c * 4 := by rw [hR2]; simp [hR1s]; omega
  have hcsat : ∀ j v, cs[j]? = some v → cur[j]? = some v := fun j v h => by
    rw [← htk, List.getElem?_take] at h
    split at h
    · simpa using h
    · cases h
  have hcp1 : ∀ (W : World), Blk W g 45 cur → ∀ ty dl dc sl sc, dl = n - i → n - i ≤ sl → (Builtin.copy_ #[22, 22] ty #[.slice (some ⟨g, (i + 1) * 4, none⟩) dl dc, .slice (some ⟨g, i * 4, none⟩) sl sc]).run Try.prog W = .ok (goInt (n - i : Nat)) (W.setRow g R1) := fun W hW ty dl dc sl sc e1 e2 => by
    rw [hR1, show (i + 1) * 4 = i * 4 + 4 by omega]
    exact run_copy_rowK W _ _ ty 45 g _ dl dc _ sl sc cur 45 (cs.drop (i * 4)) 4 (n - i) Try.underlying22 hsz hW (by rw [e1]; show _ = min _ _; omega) hdl
      (rowK_read hW _ _ fun j v h => hcsat _ v (by rwa [List.getElem?_drop] at h)) (by rw [hdl, hcs]; omega) (fun v hv => hc1 v (List.mem_of_mem_drop hv))
  have hcp2 : ∀ (W : World), Blk W g 45 R1 → Blk W vb 45 xs.toArray → ∀ ty dl dc, 1 ≤ dl → (Builtin.copy_ #[22, 22] ty #[.slice (some ⟨g, i * 4, none⟩) dl dc, .slice (some ⟨vb, 0, none⟩) 1 1]).run Try.prog W = .ok (goInt 1) (W.setRow g R2) := fun W hW hWx ty dl dc e1 => by
    rw [hR2]
    exact run_copy_rowK W _ _ ty 45 g _ dl dc _ 1 1 R1 45 xs 4 1 Try.underlying22 hsz hW (by show _ = min _ _; omega) (by rw [hxl])
      (rowK_read hWx _ 0 fun j v h => by simpa using h) (by rw [hR1s, hxl]; omega) hx1
  have B1 := Lib.hid hblk
  have X1 := Lib.hid hx
  have HR2 := Lib.hid (And.intro hR2 (And.intro hR2s hR1))
  have hOV := hov w hblk hx
  have C1 := Lib.hid hcp1
  have C2 := Lib.hid hcp2
  have HT := Lib.hid (And.intro htk (And.intro hcl (And.intro hxl hcs)))
  have hb1 : ¬ ((1 : Int) = 0) := by omega
  have hb2 : ¬ ((i : Int) = (n : Int)) := by omega
  have hw1 : IntKind.i64.wrap ((n : Int) + 1) = (n : Int) + 1 := IntWalk.i64_in _ (by omega)
  have hw2 : IntKind.i64.wrap ((i : Int) + 1) = (i : Int) + 1 := IntWalk.i64_in _ (by omega)
  have ht1 : ((n : Int) + 1).toNat = n + 1 := by omega
  have ht2 : ((i : Int) + 1).toNat = i + 1 := by omega
  have hq3 : (0 : Int) ≤ (i : Int) + 1 := by omega
  have hq4 : i ≤ n := by omega
  have hq5 : i ≤ n + 1 := by omega
  have hq6 : (i : Int) ≤ (n : Int) + 1 := by omega
  have hq1 : ¬ (c = i) := by omega
  have hq2 : ¬ (c = i + 1) := by omega
  clear ho hblk hx hcs htk hcl hxl hR1 hR2 hR1s hR2s hcsat hcp1 hcp2 hdl hov hi0 hz0 hz1 hz2 hsz
  go_enter Try.func35, Try.ntmps35
  go_wp2_with (simp only [hOV])
  have HB2 := Lib.hid (show Blk (w.drew.setRow g R1) g 45 R1 from B1.out.drew.row R1)
  have HX2 := Lib.hid (show Blk (w.drew.setRow g R1) vb 45 xs.toArray from X1.out.drew.rowOther hvb R1)
  go_region_law (refine step_copy_runI rfl _ _ 22 22 rfl (.slice (some ⟨g, (i + 1) * 4, none⟩) (n - i) (c - (i + 1))) (.slice (some ⟨g, i * 4, none⟩) (n + 1 - i) (c - i)) (by simp [Act.eval, Act.put]) (by simp [Act.eval, Act.put]) (C1.out _ B1.out.drew _ _ _ _ _ rfl (by omega)) ?_)
  have BW := Lib.hid (show Below B w (w.drew.setRow g R1) from below_row (Below.refl B w).drew hB R1)
  generalize w.drew.setRow g R1 = W1 at HB2 HX2 BW ⊢
  go_wp2_with (with_reducible refine wpList_copy_runI _ rfl _ _ 22 22 rfl _ _ rfl rfl (C2.out _ HB2.out HX2.out _ _ _ (by omega)) ?_)
  go_ret
  refine ⟨_, rfl, ⟨?_, .inr ⟨g, c, R2, rfl, hB, HB2.out.row R2, by omega, by unfold maxLen; omega, HR2.out.2.1, ?_⟩⟩, below_row BW.out hB R2⟩
  · simp [HT.out.2.1, HT.out.2.2.1]; omega
  · rw [HR2.out.1, HR2.out.2.2]
    simp only [List.toList_toArray]
    rw [show (n + 1) * 4 = n * 4 + 4 by omega]
    exact ins_row HT.out.1 HT.out.2.1 (by omega) HT.out.2.2.1 (by simp [HT.out.2.2.2]; omega)
set_option maxHeartbeats 8000000 in
theorem Insert_grow (B g : Nat) (n i : Nat) (cs xs : List Value) (vb : Nat) (hi : i < n) (hn : n ≤ 1048576) (w : World) (hB : B ≤ w.heap.size)
    (ho : w.ownsRow B 45 4 (.slice (some ⟨g, 0, none⟩) n n) n cs) (hc1 : ∀ u ∈ cs, u.oneCell' = true) (hx : Blk w vb 45 xs.toArray) (hxl : xs.length = 4) (hx1 : ∀ u ∈ xs, u.oneCell' = true) :
    Calls Try.prog 35 #[.slice (some ⟨g, 0, none⟩) n n, .int .i64 i, .slice (some ⟨vb, 0, none⟩) 1 1] w fun e w' => ∃ v', e = .returned v' ∧ w'.ownsRow B 45 4 v' (n + 1) (cs.take (i * 4) ++ xs ++ cs.drop (i * 4)) ∧ Below B w w' := by
  have hcl : cs.length = n * 4 := ho.1
  obtain ⟨cur, hblk, hcs, htk⟩ : ∃ cur, Blk w g 45 cur ∧ cur.size = n * 4 ∧ cur.toList.take (n * 4) = cs := by
    rcases ho.2 with ⟨hv, h0⟩ | ⟨g', cap, cur, hv, _, hblk, _, _, hcs, htk⟩
    · omega
    · cases hv; exact ⟨cur, hblk, hcs, htk⟩
  obtain ⟨i0, hi0, hz0, hz1, hz2⟩ := info_parts Try.info45
  have hsz : (Try.prog.info? 45).map (·.size) = some 4 := by rw [hi0]; simp [hz1]
  have hcsat : ∀ j v, cs[j]? = some v → cur[j]? = some v := fun j v h => by
    rw [← htk, List.getElem?_take] at h
    split at h
    · simpa using h
    · cases h
  have hold : (Builtin.firstCells i0.size i (.slice (some ⟨g, 0, none⟩) i n)).run Try.prog w.drew = .ok (cs.take (i * 4)).toArray w.drew := by
    rw [hz1]
    exact run_firstCells_some w.drew 4 i ⟨g, 0, none⟩ i n (cs.take (i * 4)) (by rw [List.length_take]; omega) (fun j v hj => by
      have hj' : cs[j]? = some v := by
        rw [List.getElem?_take] at hj
        split at hj
        · exact hj
        · cases hj
      have := rowK_read hblk.drew cs 0 (fun j v h => by simpa using hcsat j v h) j v hj'
      exact this)
  obtain ⟨G, hG⟩ : ∃ G, G = grownCap w (n + 1) n 45 := ⟨_, rfl⟩
  have hGn : n + 1 ≤ G := by rw [hG]; exact grownCap_ge w _ _ _
  have hGm : G ≤ maxLen := by rw [hG]; exact grownCap_le_maxLen w (n + 1) n 45 (by unfold maxLen; omega)
  obtain ⟨ROW, hROW⟩ : ∃ ROW : Array Value, ROW = (cs.take (i * 4)).toArray ++ Builtin.zeroCells (Value.cells (.agg #[.int .i64 0, .int .i64 0, .int .i64 0, .int .i64 0])) (n + 1 - i) ++ Builtin.zeroCells (Value.cells (.agg #[.int .i64 0, .int .i64 0, .int .i64 0, .int .i64 0])) (G - (n + 1)) := ⟨_, rfl⟩
  have hRs : ROW.size = G * 4 := by rw [hROW]; simp [Builtin.zeroCells, Value.cells]; omega
  have hRt : ROW.toList.take (i * 4) = cs.take (i * 4) := by
    rw [hROW]
    simp only [Array.toList_append, List.append_assoc]
    rw [List.take_append_of_le_length (by simp; omega)]
    exact List.take_of_length_le (by rw [List.length_take]; exact Nat.min_le_left _ _)
  obtain ⟨W1, hW1⟩ : ∃ W1, W1 = w.drew.alloc (.cells ROW 45) := ⟨_, rfl⟩
  have hrz : ∀ ty, (Builtin.append_ #[22, 3] ty #[.slice (some ⟨g, 0, none⟩) i n, .int .i64 ((n : Int) + 1 - (i : Int))]).run Try.prog w = .ok (.slice (some ⟨w.heap.size, 0, none⟩) (n + 1) G) W1 := fun ty => by
    have h := Lib.run_append_grow_zeros w 22 3 ty 45 i0 _ .i64 .i64 Try.underlying22 Try.underlying3 hi0 hz0 (some ⟨g, 0, none⟩) i n (cs.take (i * 4)) hold (n + 1 - i) (by omega) (by rw [hz1]; omega) (by omega) (by omega) (by rw [hz2]; omega) (by rw [hz2, show i + (n + 1 - i) = n + 1 by omega]; exact growslice_fits (by omega) (by omega))
    rw [show i + (n + 1 - i) = n + 1 by omega, ← hG, ← hROW, ← hW1] at h
    rw [show (n : Int) + 1 - (i : Int) = ((n + 1 - i : Nat) : Int) by omega]
    exact h
  have b1 : Blk W1 w.heap.size 45 ROW := by rw [hW1]; exact Blk.new_at w.drew 45 ROW rfl
  have g1 : Blk W1 g 45 cur := by rw [hW1]; exact hblk.drew.alloc _
  have x1 : Blk W1 vb 45 xs.toArray := by rw [hW1]; exact hx.drew.alloc _
  have bw : Below B w W1 := by rw [hW1]; exact (Below.refl B w).drew.alloc hB _
  obtain ⟨q, hq⟩ : ∃ q, w.heap.size = q := ⟨_, rfl⟩
  have hgq : g ≠ q := by rw [← hq]; have := hblk.lt; omega
  have hvq : vb ≠ q := by rw [← hq]; have := hx.lt; omega
  have hBq : B ≤ q := by omega
  rw [hq] at hrz b1
  have hdl : (cs.drop (i * 4)).length = (n - i) * 4 := by rw [List.length_drop, hcl]; omega
  obtain ⟨R1, hR1⟩ : ∃ R1 : Array Value, R1 = (ROW.toList.take (i * 4) ++ xs ++ ROW.toList.drop (i * 4 + xs.length)).toArray := ⟨_, rfl⟩
  obtain ⟨R2, hR2⟩ : ∃ R2 : Array Value, R2 = (R1.toList.take ((i + 1) * 4) ++ cs.drop (i * 4) ++ R1.toList.drop ((i + 1) * 4 + (cs.drop (i * 4)).length)).toArray := ⟨_, rfl⟩
  have hR1s : R1.size = G * 4 := by rw [hR1]; simp [hRs, hxl]; omega
  have hR2s : R2.size = G * 4 := by rw [hR2]; simp [hR1s]; omega
  have hcp1 : ∀ (W : World), Blk W q 45 ROW → Blk W vb 45 xs.toArray → ∀ ty dl dc, 1 ≤ dl → (Builtin.copy_ #[22, 22] ty #[.slice (some ⟨q, i * 4, none⟩) dl dc, .slice (some ⟨vb, 0, none⟩) 1 1]).run Try.prog W = .ok (goInt 1) (W.setRow q R1) := fun W hW hWx ty dl dc e1 => by
    rw [hR1]
    exact run_copy_rowK W _ _ ty 45 q _ dl dc _ 1 1 ROW 45 xs 4 1 Try.underlying22 hsz hW (by show _ = min _ _; omega) (by rw [hxl])
      (rowK_read hWx _ 0 fun j v h => by simpa using h) (by rw [hRs, hxl]; omega) hx1
  have hcp2 : ∀ (W : World), Blk W q 45 R1 → Blk W g 45 cur → ∀ ty dl dc sl sc, n - i ≤ dl → sl = n - i → (Builtin.copy_ #[22, 22] ty #[.slice (some ⟨q, (i + 1) * 4, none⟩) dl dc, .slice (some ⟨g, i * 4, none⟩) sl sc]).run Try.prog W = .ok (goInt (n - i : Nat)) (W.setRow q R2) := fun W hW hWg ty dl dc sl sc e1 e2 => by
    rw [hR2]
    exact run_copy_rowK W _ _ ty 45 q _ dl dc _ sl sc R1 45 (cs.drop (i * 4)) 4 (n - i) Try.underlying22 hsz hW (by rw [e2]; show _ = min _ _; omega) hdl
      (rowK_read hWg _ _ fun j v h => hcsat _ v (by rwa [List.getElem?_drop] at h)) (by rw [hdl, hR1s]; omega) (fun v hv => hc1 v (List.mem_of_mem_drop hv))
  have HR2 := Lib.hid (And.intro hR2 (And.intro hR2s (And.intro hR1 hRt)))
  have HT := Lib.hid (And.intro hcl (And.intro hxl (And.intro hRs hdl)))
  have B1 := Lib.hid b1
  have G1 := Lib.hid g1
  have X1 := Lib.hid x1
  have BW := Lib.hid bw
  have C1 := Lib.hid hcp1
  have C2 := Lib.hid hcp2
  have HGm := Lib.hid hGm
  have hG63 : G ≤ 9223372036854775807 := by unfold maxLen at hGm; exact hGm
  have hb1 : ¬ ((1 : Int) = 0) := by omega
  have hb2 : ¬ ((i : Int) = (n : Int)) := by omega
  have hw1 : IntKind.i64.wrap ((n : Int) + 1) = (n : Int) + 1 := IntWalk.i64_in _ (by omega)
  have hw2 : IntKind.i64.wrap ((i : Int) + 1) = (i : Int) + 1 := IntWalk.i64_in _ (by omega)
  have ht2 : ((i : Int) + 1).toNat = i + 1 := by omega
  have hq3 : (0 : Int) ≤ (i : Int) + 1 := by omega
  have hq4 : i ≤ n := by omega
  have hq1 : ¬ (n = i) := by omega
  have hq2 : ¬ (G = i) := by omega
  have hq5 : ¬ (G = i + 1) := by omega
  have hq6 : i ≤ n + 1 := by omega
  clear ho hblk hx hcs htk hcl hxl hR1 hR2 hR1s hR2s hcsat hcp1 hcp2 hdl hi0 hz0 hz1 hz2 hsz hold hG hROW hRs hRt hW1 b1 g1 x1 bw hq hGm
  go_enter Try.func35, Try.ntmps35
  go_wp2_with (first | (at_builtin; refine Lib.wpList_append_run _ rfl _ _ _ _ rfl _ _ rfl rfl _ _ (hrz _) ?_) | (with_reducible refine wpList_copy_runI _ rfl _ _ 22 22 rfl _ _ rfl rfl (C1.out _ B1.out X1.out _ _ _ (by omega)) ?_) | fail)
  have HB2 := Lib.hid (show Blk (W1.setRow q R1) q 45 R1 from B1.out.row R1)
  have HG2 := Lib.hid (show Blk (W1.setRow q R1) g 45 cur from G1.out.rowOther hgq R1)
  have BW2 := Lib.hid (show Below B w (W1.setRow q R1) from below_row BW.out hBq R1)
  generalize W1.setRow q R1 = W2 at HB2 HG2 BW2 ⊢
  go_region_law (refine step_copy_runI rfl _ _ 22 22 rfl (.slice (some ⟨q, (i + 1) * 4, none⟩) (n - i) (G - (i + 1))) (.slice (some ⟨g, i * 4, none⟩) (n - i) (n - i)) (by simp [Act.eval, Act.put]) (by simp [Act.eval, Act.put]) (C2.out _ HB2.out.drew HG2.out.drew _ _ _ _ _ (by omega) rfl) ?_)
  go_wp2_with fail
  go_ret
  refine ⟨_, rfl, ⟨?_, .inr ⟨q, G, R2, rfl, hBq, HB2.out.drew.row R2, by omega, HGm.out, HR2.out.2.1, ?_⟩⟩, below_row BW2.out.drew hBq R2⟩
  · simp [HT.out.1, HT.out.2.1]; omega
  · rw [HR2.out.1]
    simp only [List.toList_toArray]
    have h1 : R1.toList.take ((i + 1) * 4) = cs.take (i * 4) ++ xs := by
      rw [HR2.out.2.2.1]
      simp only [List.toList_toArray]
      rw [HR2.out.2.2.2, List.take_append_of_le_length (by simp [HT.out.1, HT.out.2.1]; omega)]
      exact List.take_of_length_le (by simp [HT.out.1, HT.out.2.1]; omega)
    rw [h1, List.take_append_of_le_length (by simp [HT.out.1, HT.out.2.1]; omega)]
    exact List.take_of_length_le (by simp [HT.out.1, HT.out.2.1]; omega)
/-- One element more, at the place i. -/
theorem Insert_any (B : Nat) (v : Value) (n i : Nat) (cs xs : List Value) (vb : Nat) (hi : i ≤ n) (hn : n ≤ 1048576) (w : World) (hB : B ≤ w.heap.size)
    (ho : w.ownsRow B 45 4 v n cs) (hc1 : ∀ u ∈ cs, u.oneCell' = true) (hx : Blk w vb 45 xs.toArray) (hxl : xs.length = 4) (hx1 : ∀ u ∈ xs, u.oneCell' = true) (hvb : ∀ g, v.ownBlock = some g → vb ≠ g) :
    Calls Try.prog 35 #[v, .int .i64 i, .slice (some ⟨vb, 0, none⟩) 1 1] w fun e w' => ∃ v', e = .returned v' ∧ w'.ownsRow B 45 4 v' (n + 1) (cs.take (i * 4) ++ xs ++ cs.drop (i * 4)) ∧ Below B w w' := by
  have hcl : cs.length = n * 4 := ho.1
  rcases Nat.lt_or_eq_of_le hi with h | h
  · rcases ho.2 with ⟨hv, h0⟩ | ⟨g, cap, cur, hv, hg, hblk, hn', hcap, hcs, htk⟩
    · omega
    · subst hv
      by_cases hr : n + 1 ≤ cap
      · exact Insert_room B g n i cap cs xs vb h hn hr hcap w hg ho hc1 hx hxl hx1 (hvb g rfl)
      · obtain rfl : cap = n := by omega
        exact Insert_grow B g cap i cs xs vb h hn w hB ho hc1 hx hxl hx1
  · subst h
    rw [List.take_of_length_le (by omega), List.drop_eq_nil_of_le (by omega), List.append_nil]
    obtain ⟨A, c, rfl⟩ : ∃ A c, v = .slice A i c := by
      rcases ho.2 with ⟨rfl, h0⟩ | ⟨g, cap, cur, rfl, _⟩
      · rw [h0]; exact ⟨_, _, rfl⟩
      · exact ⟨_, _, rfl⟩
    exact Insert_end B A i c cs xs vb hn w hB ho hx hxl hx1
end Go.Proofs.Ytnjmhijfaijopaa

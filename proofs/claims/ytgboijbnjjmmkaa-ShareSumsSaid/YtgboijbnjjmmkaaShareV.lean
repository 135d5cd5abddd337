/- The value of a polynomial, from the highest coefficient on, by a function that yields. -/
import Derived.Test.YtgboijbnjjmmkaaShareE
namespace Go.Proofs.Ytgboijbnjjmmkaa
open Go.ChangeShapes Go.WideShapes Go.ChangeAt Go.RowKit Go.Shelf Gs
set_option linter.unusedVariables false
attribute [local go_sem] Oper.semAt_some

/-- What coefficients at places make, one behind the other. -/
def hval (x : Int) (xs : List Int) (pre : List Nat) : Int := pre.foldl (fun v j => radd (rmul v x) (xs[j]?.getD 0)) 0
theorem hval_snoc (x : Int) (xs : List Int) (pre : List Nat) (j : Nat) : hval x xs (pre ++ [j]) = radd (rmul (hval x xs pre) x) (xs[j]?.getD 0) := by
  unfold hval; rw [List.foldl_append]; rfl
theorem hfold_rb (x : Int) (xs : List Int) : ∀ (pre : List Nat) (v : Int), Rb v → Rb (pre.foldl (fun v j => radd (rmul v x) (xs[j]?.getD 0)) v)
  | [], v, h => h
  | j :: pre, v, h => hfold_rb x xs pre _ (radd_bound _ _)
instance (x : Int) (xs : List Int) (pre : List Nat) : IsU (hval x xs pre) := rb_u (hfold_rb x xs pre 0 ⟨by omega, by omega⟩)
/-- The places from the last one down, k of them. -/
def dn (n k : Nat) : List Nat := (List.range n).reverse.take k
theorem dn_length (n k : Nat) (h : k ≤ n) : (dn n k).length = k := by unfold dn; rw [List.length_take, List.length_reverse, List.length_range]; exact Nat.min_eq_left h
theorem dn_succ (n k : Nat) (h : k < n) : dn n (k + 1) = dn n k ++ [n - 1 - k] := by
  unfold dn
  rw [List.take_succ_eq_append_getElem (by simpa using h)]
  simp
theorem hval_dn (x : Int) (xs : List Int) : ∀ k, k ≤ xs.length → hval x xs (dn xs.length k) = pval x (xs.drop (xs.length - k))
  | 0, _ => by rw [Nat.sub_zero, List.drop_length]; rfl
  | k + 1, h => by
    have e : xs.length - (k + 1) + 1 = xs.length - k := by omega
    have hk : xs.length - 1 - k < xs.length := by omega
    rw [dn_succ _ _ (by omega), hval_snoc, hval_dn x xs k (by omega), pval_drop x xs (xs.length - (k + 1)) (by omega), e, List.getElem?_eq_getElem hk]
    have e2 : xs.length - 1 - k = xs.length - (k + 1) := by omega
    simp only [e2, Option.getD_some]
theorem hval_all (x : Int) (xs : List Int) : hval x xs (dn xs.length xs.length) = pval x xs := by rw [hval_dn x xs _ (Nat.le_refl _), Nat.sub_self]; rfl

set_option maxRecDepth 100000 in
set_option maxHeartbeats 1000000 in
theorem back_in (n : Nat) (hn : 1 ≤ n) (l Bs n₀ : Nat) (A : Option Addr) (c : Nat) (xs : List Int) (hl : xs.length ≤ 1048576) (J Jx : List Nat → World → Prop)
    (hY : ∀ pre j W, J pre W → pre.length < xs.length → YieldAt Fence.wide (n - 1) Try.prog l #[.int .i64 ((j : Nat) : Int), .int .u64 (xs[j]?.getD 0)] W fun e W' =>
      (e = .returned (.bool true) ∧ J (pre ++ [j]) W' ∧ KB n₀ Bs W W') ∨ (e = .returned (.bool false) ∧ Jx (pre ++ [j]) W'))
    (W : World) (hBs : W.cell? ⟨Bs, 0, none⟩ = some (.slice A xs.length c)) (hs : SI W n₀ .u64 A xs) (h0 : J [] W) :
    CallsIn Fence.wide n Try.prog 90 #[.func (.yield l) #[] #[], .pointer (some ⟨Bs, 0, none⟩)] W fun e W' => (∃ v, e = .returned v) ∧
      ((∃ ys, ys = dn xs.length xs.length ∧ J ys W') ∨ (∃ pre, True ∧ Jx pre W')) := by
  have HS := Lib.hid hs
  have HY := Lib.hid hY
  clear hs hY
  refine callsIn_of_wp Try.func90 rfl trivial ?_ rfl
  simp only [Try.ntmps90, List.size_toArray, List.length_cons, List.length_nil, Nat.reduceAdd, Nat.reduceSub, Array.replicate_succ, Array.replicate_zero, List.push_toArray, List.append_toArray, List.nil_append, List.cons_append]
  gi_wp2
  gi_loopw [3] (fun i wr => ∃ k : Nat, k ≤ xs.length ∧ i = .int .i64 ((k : Int) - 1) ∧ J (dn xs.length (xs.length - k)) wr ∧ KB n₀ Bs W wr)
    (fun i _ => (intOf i + 1).toNat)
  case atStart => exact ⟨xs.length, by omega, rfl, by rw [Nat.sub_self]; exact h0, KB.refl _ _ _⟩
  case round =>
    obtain ⟨k, hk, rfl, hJs, hnx⟩ := hrel
    have hBw : wr.cell? ⟨Bs, 0, none⟩ = some (.slice A xs.length c) := (World.cell?_of_block (a := ⟨Bs, 0, none⟩) hnx.2).trans hBs
    have HN := Lib.hid hnx
    clear hnx
    by_cases hlt : 0 < k
    · obtain ⟨k, rfl⟩ : ∃ j, k = j + 1 := ⟨k - 1, by omega⟩
      obtain ⟨ad, rfl, hb, hc⟩ := si_at (HS.out.below HN.out.1) k (by omega)
      have hD := dn_succ xs.length (xs.length - (k + 1)) (by omega)
      rw [show xs.length - (k + 1) + 1 = xs.length - k by omega, show xs.length - 1 - (xs.length - (k + 1)) = k by omega] at hD
      have HD := Lib.hid hD
      have hy0 := HY.out _ k wr hJs (by rw [dn_length _ _ (by omega)]; omega)
      rw [List.getElem?_eq_getElem (show k < xs.length by omega), Option.getD_some] at hy0
      obtain ⟨fn, tmps, assign, body, hy, hR⟩ := hy0
      have HR := Lib.hid hR
      clear hR hJs hD
      have ee : ((k + 1 : Nat) : Int) - 1 = k := by omega
      rw [ee]
      clear ee
      gi_wp2_with fail
      refine HR.out.mono ?_
      rintro e W3 (⟨rfl, hJ3, hk3⟩ | ⟨rfl, hJx3⟩)
      · gi_wp2
        go_roundw
        case rel => exact ⟨k, by omega, by go_num, by rw [HD.out]; exact hJ3, HN.out.trans hk3⟩
        case measure => simp [intOf]
      · gi_wp2
        refine bodyPost_ret (results_none rfl _ _ _) rfl ?_
        exact ⟨⟨_, rfl⟩, .inr ⟨_, trivial, hJx3⟩⟩
    · obtain rfl : k = 0 := by omega
      gi_wp2
      go_end0
      exact ⟨⟨_, rfl⟩, .inl ⟨_, by rw [Nat.sub_zero], hJs⟩⟩

theorem back_stops (n : Nat) (hn : 1 ≤ n) (Bs n₀ : Nat) (A : Option Addr) (c : Nat) (xs : List Int) (hl : xs.length ≤ 1048576) (w : World) (hBs : Bs < w.heap.size) (hn₀ : n₀ ≤ w.heap.size)
    (hc : w.cell? ⟨Bs, 0, none⟩ = some (.slice A xs.length c)) (hs : SI w n₀ .u64 A xs) :
    SeqStopsK Fence.wide n Try.prog 90 #[.pointer (some ⟨Bs, 0, none⟩)] (fun j : Nat => #[Value.int .i64 (j : Int), Value.int .u64 (xs[j]?.getD 0)]) (KB n₀ Bs) (fun ys => ys = dn xs.length xs.length) (fun _ => True) xs.length w := fun l J Jx W hW _ _ hY h0 =>
  back_in n hn l Bs n₀ A c xs hl J Jx hY W ((hW.cell (p := ⟨Bs, 0, none⟩) hBs).trans hc) (hs.below (hW.mono hn₀)) h0

set_option maxHeartbeats 1000000 in
theorem backward_in (n : Nat) (A : Option Addr) (m c : Nat) (w : World) :
    CallsIn Fence.wide n Try.prog 66 #[.slice A m c] w fun e w' => e = .returned (.func (.func 90) #[] #[.pointer (some ⟨w.heap.size, 0, none⟩)]) ∧ w' = w.alloc (.cells #[.slice A m c] 52) := by
  refine callsIn_of_wp Try.func66 rfl trivial ?_ rfl
  simp only [Try.ntmps66, List.size_toArray, List.length_cons, List.length_nil, Nat.reduceAdd, Nat.reduceSub, Array.replicate_succ, Array.replicate_zero, List.push_toArray, List.append_toArray, List.nil_append, List.cons_append]
  gi_wp2
  go_ret
  exact ⟨rfl, rfl⟩

set_option maxRecDepth 100000 in
set_option maxHeartbeats 4000000 in
theorem value_any5 (A : Option Addr) (n c : Nat) (xs : List Int) (hln : xs.length = n) (hl : n ≤ 1048576) (hx : ∀ x ∈ xs, 0 ≤ x ∧ x < 18446744073709551616) (x : Int) [hu : IsU x] (w : World) (hs : SI w w.heap.size .u64 A xs) :
    Calls Try.prog 34 #[.slice A n c, .int .u64 x] w fun e w' => e = .returned (.int .u64 (pval x xs)) ∧ Below w.heap.size w w' := by
  subst hln
  have HX := Lib.hid (show ∀ j, IsU (xs[j]?.getD 0) from fun j => by
    by_cases h : j < xs.length
    · rw [List.getElem?_eq_getElem h, Option.getD_some]; have := hx _ (List.getElem_mem h); exact ⟨this.1, this.2⟩
    · rw [List.getElem?_eq_none (by omega), Option.getD_none]; exact ⟨by omega, by omega⟩)
  have HS := Lib.hid hs
  clear hx hs
  refine (callsIn_wide (n := 6)).1 ?_
  refine callsIn_of_wp_marks Try.func34 rfl trivial ?_ rfl
  simp only [Try.ntmps34, List.size_toArray, List.length_cons, List.length_nil, Nat.reduceAdd, Nat.reduceSub, Array.replicate_succ, Array.replicate_zero, List.push_toArray, List.append_toArray, List.nil_append, List.cons_append]
  gi_wp2_with fail
  refine ⟨trivial, ?_⟩
  refine (backward_in _ _ _ _ _).mono ?_
  rintro e w4 ⟨rfl, rfl⟩
  gi_wp2_with fail
  refine wpIn_named (fun W => (Blk W (w.heap.size + 1) 22 #[.int .u64 (hval x xs [])] ∧ Blk W w.heap.size 22 #[.int .u64 x] ∧ w.heap.size + 1 + 1 < W.heap.size) ∧ Below w.heap.size w W ∧ Blk W (w.heap.size + 1 + 1) 52 #[.slice A xs.length c]) ?_ ?_
  · refine ⟨⟨Blk.alloc ?_ _, ?_, by simp⟩, ?_, Blk.new_at _ _ _ (by simp)⟩
    · first | exact Blk.new_at _ _ _ (by simp) | exact (Blk.new_at _ _ _ (by simp)).set1
    · first | exact ((Blk.new_at _ _ _ rfl).alloc _).alloc _ | exact (((Blk.new_at _ _ _ rfl).alloc _).other (by simp; omega) _).alloc _
    · first
        | exact ((((Below.refl _ _).alloc (Nat.le_refl _) _).alloc (by simp) _).alloc (by simp; omega) _)
        | exact (((((Below.refl _ _).alloc (Nat.le_refl _) _).alloc (by simp) _).setCell (by simp; omega) _).alloc (by simp; omega) _)
  rintro W4 ⟨⟨b1, b0, hz⟩, hB, b3⟩
  have HS4 := Lib.hid (HS.out.below hB)
  have hzz := hB.size
  generalize hs1 : w.heap.size + 1 = s1 at b1 b3 hz ⊢
  generalize hs2 : s1 + 1 = s2 at b3 hz ⊢
  refine wpIn_rangeFunc_ownG rfl (by omega) (gf := 90) (lb := #[.pointer (some ⟨s2, 0, none⟩)]) rfl trivial (enters_of Try.func90 (by kernel_rfl) rfl)
    (back_stops _ (by omega) s2 w.heap.size A c xs hl _ hz hzz (b3.cell 0) HS4.out) KB.trans (KB.put hzz hz) (Below.refl _ _) (fun _ => rfl)
    (fun pre W => (Blk W s1 22 #[.int .u64 (hval x xs pre)] ∧ Blk W w.heap.size 22 #[.int .u64 x] ∧ s2 < W.heap.size) ∧ Below w.heap.size w W)
    (fun _ _ _ => False) ?_ (fun _ _ _ _ _ hs _ _ => hs) ⟨⟨b1, b0, hz⟩, hB⟩ ?_ ?_ ?_ ?_ ?_
  rotate_left 1
  rotate_left 1
  · intro i y W K hK
    gi_wp2
    exact hK
  · rintro i pre b W ⟨⟨k1, k0, kz⟩, kB⟩ hlt
    obtain ⟨c1, f1⟩ := k1.facts1
    obtain ⟨c0, f0⟩ := k0.facts1
    haveI := HX.out b
    have HI := Lib.hid (And.intro k1 (And.intro k0 kB))
    have PA := Lib.hid (MulR_r (hval x xs pre) x)
    have PB := Lib.hid (AddR_r (rmul (hval x xs pre) x) (xs[b]?.getD 0))
    have EP := Lib.hid (hval_snoc x xs pre b)
    clear k1 k0 kB
    generalize xs[b]?.getD 0 = z at *
    gi_wp2_with fail
    refine ⟨trivial, ?_⟩
    refine (CallsIn.inRound i (callsIn_wide.2 (PA.out _))).mono ?_
    rintro e w5 ⟨rfl, hb5⟩
    have HJ := Lib.hid (And.intro (HI.out.1.below hb5 HI.out.1.lt) (And.intro (HI.out.2.1.below hb5 HI.out.2.1.lt) (And.intro (HI.out.2.2.trans (hb5.mono HI.out.2.2.size)) hb5)))
    clear hb5 c0 f0 c1 f1
    obtain ⟨c1, f1⟩ := HJ.out.1.facts1
    gi_wp2_with fail
    refine ⟨trivial, ?_⟩
    refine (CallsIn.inRound i (callsIn_wide.2 (PB.out _))).mono ?_
    rintro e w6 ⟨rfl, rfl⟩
    gi_wp2_with fail
    refine ⟨((keeps_below HJ.out.2.2.2).trans (KeepsOthers.setCell _ _ _)).from _, kb_set (kb_below HJ.out.2.2.2 HI.out.2.2.size kz) (by simp; omega) (by simp; omega) _, ⟨?_, ?_, ?_⟩, ?_⟩
    · show Blk _ s1 22 #[.int .u64 (hval x xs (pre ++ [b]))]
      rw [EP.out]
      exact HJ.out.1.set1
    · exact HJ.out.2.1.other (by simp; omega) _
    · have := HJ.out.2.2.2.size; simp [World.setCell]; omega
    · exact HJ.out.2.2.1.setCell (by simp; omega) _
  · rintro D ys W hD hys ⟨⟨k1, k0, kz⟩, kB⟩ hK
    obtain ⟨c1, f1⟩ := k1.facts1
    have HY := Lib.hid (show hval x xs ys = pval x xs by rw [hys, hval_all])
    have HB := Lib.hid kB
    clear k1 k0 kB hys
    gi_wp2
    refine ⟨by simp, .inl ⟨_, _, rfl, run_takeDeferred hK, ?_⟩⟩
    refine ⟨_, results_tmp rfl _ _ _, ?_, ?_⟩
    · rw [HY.out]; rfl
    · exact HB.out.trans (belowK_b (w := w) (Nat.le_refl _) W D _ _ (by omega) hK rfl rfl)
  · rintro D c pre W _ _ h _
    exact h.elim
  · exact OwnFrom.and (OwnFrom.and (Own.from (blk_own _ _ (fun pre : List Nat => #[Value.int .u64 (hval x xs pre)])) _) (OwnFrom.and (Own.from (blk_own _ _ (fun _ => #[Value.int .u64 x])) _) (fun _ _ _ _ hs hg _ => Nat.lt_of_lt_of_le hs hg.size))) (ownFrom_below (Nat.le_refl _) (by omega))
end Go.Proofs.Ytgboijbnjjmmkaa

/- Several texts of one kind, one behind the other: ShareT, ShareV, ShareU, ShareW. -/
import Derived.Test.YtlannmedefjfhaaGreatShareLib2
import Derived.Laws.EntriesVeiled
import Derived.Test.YtlannmedefjfhaaGreatShareLib
/- What package share tells of shares: their ids, whether all are below, public keys at a place. -/
namespace Go.Proofs.YtlannmedefjfhaaGreat
open Go.ChangeShapes Go.WideShapes Go.ChangeAt Go.RowKit Gs
set_option linter.unusedVariables false

theorem idsOf_any (A : Option Addr) (n c : Nat) (l : List (Int × Int)) (hn : l.length = n) (hl : n ≤ 1048576) (w : World) (hs : SS w w.heap.size A l) :
    Calls Tryz.prog 77 #[.slice A n c] w fun e w' => ∃ v', e = .returned v' ∧ OwnI w' w.heap.size v' (l.map Prod.fst) ∧ Below w.heap.size w w' := by
  have P := Lib.hid (throughI_any A n c l hn hl w hs)
  clear hn hs
  go_enter Tryz.func77, Tryz.ntmps77
  go_wp2_with fail
  refine P.out.mono ?_; rintro e w' ⟨v, rfl, ho, b⟩
  have HO := Lib.hid ho
  have HB := Lib.hid b
  clear ho b
  go_wp2_with fail
  go_ret
  exact ⟨_, rfl, HO.out, HB.out⟩

theorem allBelow_any (A : Option Addr) (n c : Nat) (l : List (Int × Int)) (hn : l.length = n) (hl : n ≤ 1048576) (hu : ∀ p ∈ l, 0 ≤ p.2 ∧ p.2 < 18446744073709551616) (w : World) (hs : SS w w.heap.size A l) :
    Calls Tryz.prog 78 #[.slice A n c, .func (.func 79) #[] #[]] w fun e w' => e = .returned (.bool (l.all fun p => decide (p.2 < 1152921504606845789))) ∧ Below w.heap.size w w' := by
  have D0 := Lib.hid ((Below.refl w.heap.size w).alloc (Nat.le_refl _) (.cells #[.func (.func 79) #[] #[]] 69))
  have HS := Lib.hid (hs.on D0.out)
  have K := Lib.hid ((Blk.new w 69 #[.func (.func 79) #[] #[]]).cell 0)
  have P := Lib.hid (fun W hs hB hw => throughB_any A n c l hn hl hu w.heap.size W hs hB hw)
  clear hn hs hu
  generalize (l.all fun p => decide (p.2 < 1152921504606845789)) = z at *
  go_enter Tryz.func78, Tryz.ntmps78
  go_wp2_with fail
  refine (P.out _ HS.out (by simp) K.out).mono ?_; rintro e w' ⟨rfl, b⟩
  have HB := Lib.hid (below_on D0.out b)
  clear b
  go_wp2_with fail
  go_ret
  exact ⟨rfl, HB.out⟩

theorem allIn_any (A : Option Addr) (n c : Nat) (l : List (Int × Int)) (hn : l.length = n) (hl : n ≤ 1048576) (hu : ∀ p ∈ l, 0 ≤ p.2 ∧ p.2 < 18446744073709551616) (w : World) (hs : SS w w.heap.size A l) :
    Calls Tryz.prog 78 #[.slice A n c, .func (.func 71) #[] #[]] w fun e w' => e = .returned (.bool (l.all fun p => qin p.2)) ∧ Below w.heap.size w w' := by
  have D0 := Lib.hid ((Below.refl w.heap.size w).alloc (Nat.le_refl _) (.cells #[.func (.func 71) #[] #[]] 69))
  have HS := Lib.hid (hs.on D0.out)
  have K := Lib.hid ((Blk.new w 69 #[.func (.func 71) #[] #[]]).cell 0)
  have P := Lib.hid (fun W hs hB hw => throughIn_any A n c l hn hl hu w.heap.size W hs hB hw)
  clear hn hs hu
  generalize (l.all fun p => qin p.2) = z at *
  go_enter Tryz.func78, Tryz.ntmps78
  go_wp2_with fail
  refine (P.out _ HS.out (by simp) K.out).mono ?_; rintro e w' ⟨rfl, b⟩
  have HB := Lib.hid (below_on D0.out b)
  clear b
  go_wp2_with fail
  go_ret
  exact ⟨rfl, HB.out⟩

/-- The closure of weights stands in a box. -/
theorem wbox_new {w w2 : World} {A : Option Addr} {n c : Nat} {ids : List Int} {pl : Int} (hn : ids.length = n) (hs : SI w w.heap.size .i64 A ids) (t1 t2 t3 : TypeId) (h : w2 = (w.alloc (.cells #[.slice A n c] t1)).alloc (.cells #[.int .i64 pl] t2)) :
    WBox (w2.alloc (.cells #[.func (.func 126) #[] #[.pointer (some ⟨w.heap.size, 0, none⟩), .pointer (some ⟨w.heap.size + 1, 0, none⟩)]] t3)) w2.heap.size w.heap.size (w.heap.size + 1) ids pl := by
  subst hn h
  have b1 : Below w.heap.size w (w.alloc (.cells #[.slice A ids.length c] t1)) := (Below.refl _ _).alloc (Nat.le_refl _) _
  refine ⟨by simp, by simp; omega, by simp, (Blk.new_at _ _ _ (by simp)).cell 0, (((Blk.new_at _ _ _ (by simp)).alloc _)).cell 0, A, c, ((((Blk.new_at _ _ _ rfl).alloc _)).alloc _).cell 0, ?_⟩
  exact hs.on (((b1.alloc (by simp) _)).alloc (by simp; omega) _)
theorem two_new {w w2 : World} {o1 o2 : Obj} (h : w2 = (w.alloc o1).alloc o2) : Below w.heap.size w w2 := by
  subst h; exact ((Below.refl w.heap.size w).alloc (Nat.le_refl _) o1).alloc (by simp) o2

theorem publicAt_any (A : Option Addr) (n c : Nat) (l : List (Int × Int)) (hn : l.length = n) (ids : List Int) (hids : l.map Prod.fst = ids) (hu : ∀ p ∈ l, 0 ≤ p.2 ∧ p.2 < 18446744073709551616) (hr : RightI ids) (i : Int) (i0 : 0 ≤ i) (i1 : i < 9223372036854775808) (w : World) (hs : SS w w.heap.size A l) :
    Calls Tryz.prog 133 #[.slice A n c, .int .i64 i] w fun e w' => e = .returned (.int .u64 (qat ids i l)) ∧ Below w.heap.size w w' := by
  have hl : n ≤ 1048576 := by have := hr.2.1; rw [← hids] at this; simp at this; omega
  have hm : ∀ p ∈ l, p.1 ∈ ids := fun p hp => by rw [← hids]; exact List.mem_map_of_mem hp
  have B0 := Lib.hid (Below.refl w.heap.size w)
  have HS := Lib.hid hs
  have P1 := Lib.hid (idsOf_any A n c l hn hl w hs)
  have HN := Lib.hid (show ids.length = n by rw [← hids, ← hn]; simp)
  rw [hids] at P1
  have P3 := Lib.hid (fun Bw Bi Bp W hs hw => throughQ_any A n c l hn hl hu Bw Bi Bp i ids i0 i1 hr hm W hs hw)
  clear hn hids hs hu hr hm
  go_enter Tryz.func133, Tryz.ntmps133
  go_wp2_with fail
  refine P1.out.mono ?_; rintro e w1 ⟨v, rfl, ho, b⟩
  obtain ⟨A', c', rfl, hc1, hc2, hs1, _⟩ := own_sliceI ho
  have HI1 := Lib.hid hs1
  have B1 := Lib.hid (below_on B0.out b)
  clear ho b hs1
  rw [HN.out] at hc1 ⊢
  go_wp2_with fail
  refine (weights_any A' n c' i w1).mono ?_; rintro e w2 ⟨rfl, hw2⟩
  have W0 := Lib.hid (fun t3 => wbox_new (c := c') (pl := i) HN.out HI1.out _ _ t3 hw2)
  have B2 := Lib.hid (below_on B1.out (two_new hw2))
  clear hw2
  go_wp2_with fail
  have B4 := Lib.hid (fun o => below_on B2.out ((Below.refl w2.heap.size w2).alloc (Nat.le_refl _) o))
  refine (P3.out _ _ _ _ (HS.out.on (B4.out _)) (W0.out _)).mono ?_; rintro e w3 ⟨rfl, b⟩
  have B3 := Lib.hid (below_on (B4.out _) b)
  clear b
  go_wp2_with fail
  go_ret
  exact ⟨rfl, B3.out⟩
end Go.Proofs.YtlannmedefjfhaaGreat

/- The value of a polynomial, from the highest coefficient on, by a function that yields. -/
namespace Go.Proofs.YtlannmedefjfhaaGreat
open Go.ChangeShapes Go.WideShapes Go.ChangeAt Go.RowKit Go.Shelf Gs
set_option linter.unusedVariables false
attribute [local go_sem] Oper.semAt_some

/-- What coefficients at places make, one behind the other. -/
def hval (x : Int) (xs : List Int) (pre : List Nat) : Int := pre.foldl (fun v j => radd (rmul v x) (xs[j]?.getD 0)) 0
theorem hval_snoc (x : Int) (xs : List Int) (pre : List Nat) (j : Nat) : hval x xs (pre ++ [j]) = radd (rmul (hval x xs pre) x) (xs[j]?.getD 0) := by
  unfold hval; rw [List.foldl_append]; rfl
theorem hfold_rb (x : Int) (xs : List Int) : ∀ (pre : List Nat) (v : Int), Rb v → Rb (pre.foldl (fun v j => radd (rmul v x) (xs[j]?.getD 0)) v)
  | [], v, h => h
  | j :: pre, v, h => hfold_rb x xs pre _ (radd_bound _ _)
instance (x : Int) (xs : List Int) (pre : List Nat) : IsU (hval x xs pre) := rb_u (hfold_rb x xs pre 0 ⟨by omega, by omega⟩)
/-- The places from the last one down, k of them. -/
def dn (n k : Nat) : List Nat := (List.range n).reverse.take k
theorem dn_length (n k : Nat) (h : k ≤ n) : (dn n k).length = k := by unfold dn; rw [List.length_take, List.length_reverse, List.length_range]; exact Nat.min_eq_left h
theorem dn_succ (n k : Nat) (h : k < n) : dn n (k + 1) = dn n k ++ [n - 1 - k] := by
  unfold dn
  rw [List.take_succ_eq_append_getElem (by simpa using h)]
  simp
theorem hval_dn (x : Int) (xs : List Int) : ∀ k, k ≤ xs.length → hval x xs (dn xs.length k) = pval x (xs.drop (xs.length - k))
  | 0, _ => by rw [Nat.sub_zero, List.drop_length]; rfl
  | k + 1, h => by
    have e : xs.length - (k + 1) + 1 = xs.length - k := by omega
    have hk : xs.length - 1 - k < xs.length := by omega
    rw [dn_succ _ _ (by omega), hval_snoc, hval_dn x xs k (by omega), pval_drop x xs (xs.length - (k + 1)) (by omega), e, List.getElem?_eq_getElem hk]
    have e2 : xs.length - 1 - k = xs.length - (k + 1) := by omega
    simp only [e2, Option.getD_some]
theorem hval_all (x : Int) (xs : List Int) : hval x xs (dn xs.length xs.length) = pval x xs := by rw [hval_dn x xs _ (Nat.le_refl _), Nat.sub_self]; rfl

set_option maxRecDepth 100000 in
set_option maxHeartbeats 1000000 in
theorem back_in (n : Nat) (hn : 1 ≤ n) (l Bs n₀ : Nat) (A : Option Addr) (c : Nat) (xs : List Int) (hl : xs.length ≤ 1048576) (J Jx : List Nat → World → Prop)
    (hY : ∀ pre j W, J pre W → pre.length < xs.length → YieldAt Fence.wide (n - 1) Tryz.prog l #[.int .i64 ((j : Nat) : Int), .int .u64 (xs[j]?.getD 0)] W fun e W' =>
      (e = .returned (.bool true) ∧ J (pre ++ [j]) W' ∧ KB n₀ Bs W W') ∨ (e = .returned (.bool false) ∧ Jx (pre ++ [j]) W'))
    (W : World) (hBs : W.cell? ⟨Bs, 0, none⟩ = some (.slice A xs.length c)) (hs : SI W n₀ .u64 A xs) (h0 : J [] W) :
    CallsIn Fence.wide n Tryz.prog 146 #[.func (.yield l) #[] #[], .pointer (some ⟨Bs, 0, none⟩)] W fun e W' => (∃ v, e = .returned v) ∧
      ((∃ ys, ys = dn xs.length xs.length ∧ J ys W') ∨ (∃ pre, True ∧ Jx pre W')) := by
  have HS := Lib.hid hs
  have HY := Lib.hid hY
  clear hs hY
  refine callsIn_of_wp Tryz.func146 rfl trivial ?_ rfl
  simp only [Tryz.ntmps146, List.size_toArray, List.length_cons, List.length_nil, Nat.reduceAdd, Nat.reduceSub, Array.replicate_succ, Array.replicate_zero, List.push_toArray, List.append_toArray, List.nil_append, List.cons_append]
  gi_wp2
  gi_loopw [3] (fun i wr => ∃ k : Nat, k ≤ xs.length ∧ i = .int .i64 ((k : Int) - 1) ∧ J (dn xs.length (xs.length - k)) wr ∧ KB n₀ Bs W wr)
    (fun i _ => (intOf i + 1).toNat)
  case atStart => exact ⟨xs.length, by omega, rfl, by rw [Nat.sub_self]; exact h0, KB.refl _ _ _⟩
  case round =>
    obtain ⟨k, hk, rfl, hJs, hnx⟩ := hrel
    have hBw : wr.cell? ⟨Bs, 0, none⟩ = some (.slice A xs.length c) := (World.cell?_of_block (a := ⟨Bs, 0, none⟩) hnx.2).trans hBs
    have HN := Lib.hid hnx
    clear hnx
    by_cases hlt : 0 < k
    · obtain ⟨k, rfl⟩ : ∃ j, k = j + 1 := ⟨k - 1, by omega⟩
      obtain ⟨ad, rfl, hb, hc⟩ := si_at (HS.out.below HN.out.1) k (by omega)
      have hD := dn_succ xs.length (xs.length - (k + 1)) (by omega)
      rw [show xs.length - (k + 1) + 1 = xs.length - k by omega, show xs.length - 1 - (xs.length - (k + 1)) = k by omega] at hD
      have HD := Lib.hid hD
      have hy0 := HY.out _ k wr hJs (by rw [dn_length _ _ (by omega)]; omega)
      rw [List.getElem?_eq_getElem (show k < xs.length by omega), Option.getD_some] at hy0
      obtain ⟨fn, tmps, assign, body, hy, hR⟩ := hy0
      have HR := Lib.hid hR
      clear hR hJs hD
      have ee : ((k + 1 : Nat) : Int) - 1 = k := by omega
      rw [ee]
      clear ee
      gi_wp2_with fail
      refine HR.out.mono ?_
      rintro e W3 (⟨rfl, hJ3, hk3⟩ | ⟨rfl, hJx3⟩)
      · gi_wp2
        go_roundw
        case rel => exact ⟨k, by omega, by go_num, by rw [HD.out]; exact hJ3, HN.out.trans hk3⟩
        case measure => simp [intOf]
      · gi_wp2
        refine bodyPost_ret (results_none rfl _ _ _) rfl ?_
        exact ⟨⟨_, rfl⟩, .inr ⟨_, trivial, hJx3⟩⟩
    · obtain rfl : k = 0 := by omega
      gi_wp2
      go_end0
      exact ⟨⟨_, rfl⟩, .inl ⟨_, by rw [Nat.sub_zero], hJs⟩⟩

theorem back_stops (n : Nat) (hn : 1 ≤ n) (Bs n₀ : Nat) (A : Option Addr) (c : Nat) (xs : List Int) (hl : xs.length ≤ 1048576) (w : World) (hBs : Bs < w.heap.size) (hn₀ : n₀ ≤ w.heap.size)
    (hc : w.cell? ⟨Bs, 0, none⟩ = some (.slice A xs.length c)) (hs : SI w n₀ .u64 A xs) :
    SeqStopsK Fence.wide n Tryz.prog 146 #[.pointer (some ⟨Bs, 0, none⟩)] (fun j : Nat => #[Value.int .i64 (j : Int), Value.int .u64 (xs[j]?.getD 0)]) (KB n₀ Bs) (fun ys => ys = dn xs.length xs.length) (fun _ => True) xs.length w := fun l J Jx W hW _ _ hY h0 =>
  back_in n hn l Bs n₀ A c xs hl J Jx hY W ((hW.cell (p := ⟨Bs, 0, none⟩) hBs).trans hc) (hs.below (hW.mono hn₀)) h0

set_option maxHeartbeats 1000000 in
theorem backward_in (n : Nat) (A : Option Addr) (m c : Nat) (w : World) :
    CallsIn Fence.wide n Tryz.prog 129 #[.slice A m c] w fun e w' => e = .returned (.func (.func 146) #[] #[.pointer (some ⟨w.heap.size, 0, none⟩)]) ∧ w' = w.alloc (.cells #[.slice A m c] 101) := by
  refine callsIn_of_wp Tryz.func129 rfl trivial ?_ rfl
  simp only [Tryz.ntmps129, List.size_toArray, List.length_cons, List.length_nil, Nat.reduceAdd, Nat.reduceSub, Array.replicate_succ, Array.replicate_zero, List.push_toArray, List.append_toArray, List.nil_append, List.cons_append]
  gi_wp2
  go_ret
  exact ⟨rfl, rfl⟩

set_option maxRecDepth 100000 in
set_option maxHeartbeats 4000000 in
theorem value_any5 (A : Option Addr) (n c : Nat) (xs : List Int) (hln : xs.length = n) (hl : n ≤ 1048576) (hx : ∀ x ∈ xs, 0 ≤ x ∧ x < 18446744073709551616) (x : Int) [hu : IsU x] (w : World) (hs : SI w w.heap.size .u64 A xs) :
    Calls Tryz.prog 87 #[.slice A n c, .int .u64 x] w fun e w' => e = .returned (.int .u64 (pval x xs)) ∧ Below w.heap.size w w' := by
  subst hln
  have HX := Lib.hid (show ∀ j, IsU (xs[j]?.getD 0) from fun j => by
    by_cases h : j < xs.length
    · rw [List.getElem?_eq_getElem h, Option.getD_some]; have := hx _ (List.getElem_mem h); exact ⟨this.1, this.2⟩
    · rw [List.getElem?_eq_none (by omega), Option.getD_none]; exact ⟨by omega, by omega⟩)
  have HS := Lib.hid hs
  clear hx hs
  refine (callsIn_wide (n := 6)).1 ?_
  refine callsIn_of_wp_marks Tryz.func87 rfl trivial ?_ rfl
  simp only [Tryz.ntmps87, List.size_toArray, List.length_cons, List.length_nil, Nat.reduceAdd, Nat.reduceSub, Array.replicate_succ, Array.replicate_zero, List.push_toArray, List.append_toArray, List.nil_append, List.cons_append]
  gi_wp2_with fail
  refine ⟨trivial, ?_⟩
  refine (backward_in _ _ _ _ _).mono ?_
  rintro e w4 ⟨rfl, rfl⟩
  gi_wp2_with fail
  refine wpIn_named (fun W => (Blk W (w.heap.size + 1) 23 #[.int .u64 (hval x xs [])] ∧ Blk W w.heap.size 23 #[.int .u64 x] ∧ w.heap.size + 1 + 1 < W.heap.size) ∧ Below w.heap.size w W ∧ Blk W (w.heap.size + 1 + 1) 101 #[.slice A xs.length c]) ?_ ?_
  · refine ⟨⟨Blk.alloc ?_ _, ?_, by simp⟩, ?_, Blk.new_at _ _ _ (by simp)⟩
    · first | exact Blk.new_at _ _ _ (by simp) | exact (Blk.new_at _ _ _ (by simp)).set1
    · first | exact ((Blk.new_at _ _ _ rfl).alloc _).alloc _ | exact (((Blk.new_at _ _ _ rfl).alloc _).other (by simp; omega) _).alloc _
    · first
        | exact ((((Below.refl _ _).alloc (Nat.le_refl _) _).alloc (by simp) _).alloc (by simp; omega) _)
        | exact (((((Below.refl _ _).alloc (Nat.le_refl _) _).alloc (by simp) _).setCell (by simp; omega) _).alloc (by simp; omega) _)
  rintro W4 ⟨⟨b1, b0, hz⟩, hB, b3⟩
  have HS4 := Lib.hid (HS.out.below hB)
  have hzz := hB.size
  generalize hs1 : w.heap.size + 1 = s1 at b1 b3 hz ⊢
  generalize hs2 : s1 + 1 = s2 at b3 hz ⊢
  refine wpIn_rangeFunc_ownG rfl (by omega) (gf := 146) (lb := #[.pointer (some ⟨s2, 0, none⟩)]) rfl trivial (enters_of Tryz.func146 (by kernel_rfl) rfl)
    (back_stops _ (by omega) s2 w.heap.size A c xs hl _ hz hzz (b3.cell 0) HS4.out) KB.trans (KB.put hzz hz) (Below.refl _ _) (fun _ => rfl)
    (fun pre W => (Blk W s1 23 #[.int .u64 (hval x xs pre)] ∧ Blk W w.heap.size 23 #[.int .u64 x] ∧ s2 < W.heap.size) ∧ Below w.heap.size w W)
    (fun _ _ _ => False) ?_ (fun _ _ _ _ _ hs _ _ => hs) ⟨⟨b1, b0, hz⟩, hB⟩ ?_ ?_ ?_ ?_ ?_
  rotate_left 1
  rotate_left 1
  · intro i y W K hK
    gi_wp2
    exact hK
  · rintro i pre b W ⟨⟨k1, k0, kz⟩, kB⟩ hlt
    obtain ⟨c1, f1⟩ := k1.facts1
    obtain ⟨c0, f0⟩ := k0.facts1
    haveI := HX.out b
    have HI := Lib.hid (And.intro k1 (And.intro k0 kB))
    have PA := Lib.hid (MulR_r (hval x xs pre) x)
    have PB := Lib.hid (AddR_r (rmul (hval x xs pre) x) (xs[b]?.getD 0))
    have EP := Lib.hid (hval_snoc x xs pre b)
    clear k1 k0 kB
    generalize xs[b]?.getD 0 = z at *
    gi_wp2_with fail
    refine ⟨trivial, ?_⟩
    refine (CallsIn.inRound i (callsIn_wide.2 (PA.out _))).mono ?_
    rintro e w5 ⟨rfl, hb5⟩
    have HJ := Lib.hid (And.intro (HI.out.1.below hb5 HI.out.1.lt) (And.intro (HI.out.2.1.below hb5 HI.out.2.1.lt) (And.intro (HI.out.2.2.trans (hb5.mono HI.out.2.2.size)) hb5)))
    clear hb5 c0 f0 c1 f1
    obtain ⟨c1, f1⟩ := HJ.out.1.facts1
    gi_wp2_with fail
    refine ⟨trivial, ?_⟩
    refine (CallsIn.inRound i (callsIn_wide.2 (PB.out _))).mono ?_
    rintro e w6 ⟨rfl, rfl⟩
    gi_wp2_with fail
    refine ⟨((keeps_below HJ.out.2.2.2).trans (KeepsOthers.setCell _ _ _)).from _, kb_set (kb_below HJ.out.2.2.2 HI.out.2.2.size kz) (by simp; omega) (by simp; omega) _, ⟨?_, ?_, ?_⟩, ?_⟩
    · show Blk _ s1 23 #[.int .u64 (hval x xs (pre ++ [b]))]
      rw [EP.out]
      exact HJ.out.1.set1
    · exact HJ.out.2.1.other (by simp; omega) _
    · have := HJ.out.2.2.2.size; simp [World.setCell]; omega
    · exact HJ.out.2.2.1.setCell (by simp; omega) _
  · rintro D ys W hD hys ⟨⟨k1, k0, kz⟩, kB⟩ hK
    obtain ⟨c1, f1⟩ := k1.facts1
    have HY := Lib.hid (show hval x xs ys = pval x xs by rw [hys, hval_all])
    have HB := Lib.hid kB
    clear k1 k0 kB hys
    gi_wp2
    refine ⟨by simp, .inl ⟨_, _, rfl, run_takeDeferred hK, ?_⟩⟩
    refine ⟨_, results_tmp rfl _ _ _, ?_, ?_⟩
    · rw [HY.out]; rfl
    · exact HB.out.trans (belowK_b (w := w) (Nat.le_refl _) W D _ _ (by omega) hK rfl rfl)
  · rintro D c pre W _ _ h _
    exact h.elim
  · exact OwnFrom.and (OwnFrom.and (Own.from (blk_own _ _ (fun pre : List Nat => #[Value.int .u64 (hval x xs pre)])) _) (OwnFrom.and (Own.from (blk_own _ _ (fun _ => #[Value.int .u64 x])) _) (fun _ _ _ _ hs hg _ => Nat.lt_of_lt_of_le hs hg.size))) (ownFrom_below (Nat.le_refl _) (by omega))
end Go.Proofs.YtlannmedefjfhaaGreat

/- What package share answers: a polynomial of a seed, shares of a secret, weights, what shares make, public shares. -/
namespace Go.Proofs.YtlannmedefjfhaaGreat
open Go.ChangeShapes Go.WideShapes Go.ChangeAt Go.RowKit Gs
set_option linter.unusedVariables false

set_option maxHeartbeats 4000000 in
theorem polynomial_any (s : Int) (T : Nat) (s0 : 0 ≤ s) (t1 : 1 ≤ T) (t7 : T ≤ 7) (s1 : s < 1152921504606845789) (A : Option Addr) (c : Nat) (xs : List Int) (hx : ∀ x ∈ xs, 0 ≤ x ∧ x < 256) (hl : xs.length ≤ 1000) (hc : xs.length ≤ c) (hm : c ≤ maxLen) (w : World) (hs : SI w w.heap.size .u8 A xs) :
    Calls Tryz.prog 86 #[.int .u64 s, .int .i64 (T : Int), .slice A xs.length c] w fun e w' => ∃ v, e = .returned v ∧ OwnU w' w.heap.size v (cpoly s xs T) ∧ Below w.heap.size w w' := by
  have V := Lib.hid (show Sli w (.slice A xs.length c) xs from ⟨A, c, rfl, hc, hm, hs⟩)
  have HX := Lib.hid hx
  obtain ⟨i0, hi, hz0, hz1, hz2⟩ := info_parts Tryz.info23
  have HI := Lib.hid (And.intro hi (And.intro hz0 (And.intro hz1 hz2)))
  haveI : IsU 1152921504606845789 := ⟨by omega, by omega⟩
  clear hs hx hm hi hz0 hz1 hz2
  go_enter Tryz.func86, Tryz.ntmps86
  go_wp2_with fail
  go_loopw [7, 8] (fun o j wr => ∃ k : Nat, 1 ≤ k ∧ k ≤ T ∧ j = .int .i64 k ∧ OwnU wr w.heap.size o (cpoly s xs k) ∧ Below w.heap.size w wr) (fun _ j _ => T - (intOf j).toNat)
  case atStart => exact ⟨1, by omega, t1, rfl, own_u (own_oneU w s rfl) rfl (by rw [cpoly_one]; rfl), (Below.refl _ _).alloc (Nat.le_refl _) _⟩
  case round =>
    obtain ⟨k, k1, hk, rfl, ho, hd⟩ := hrel
    have HO := Lib.hid ho
    have HD := Lib.hid hd
    have hz := hd.size
    clear ho hd
    by_cases hlt : k < T
    · have HP := Lib.hid (cpoly_succ s xs k k1)
      have HLen := Lib.hid (cpoly_length s xs k)
      have hwk : IntKind.u8.wrap (k : Int) = k := by rw [show IntKind.u8.wrap (k : Int) = (k : Int) % 256 from rfl]; omega
      have T1 := Lib.hid (fun A c' => Tagged_any ⟨#[115, 104, 97, 114, 101]⟩ A c' [xs, [(k : Int)]] (share_parts k HX.out hl (by omega)).byte (share_parts k HX.out hl (by omega)).len (share_parts k HX.out hl (by omega)).few)
      have M1 := Lib.hid (Num_any (hst (coded (sbytes ⟨#[115, 104, 97, 114, 101]⟩) [xs, [(k : Int)]])).1 (hst (coded (sbytes ⟨#[115, 104, 97, 114, 101]⟩) [xs, [(k : Int)]])).2.1 1152921504606845789)
      rw [show hnum (hst (coded (sbytes ⟨#[115, 104, 97, 114, 101]⟩) [xs, [(k : Int)]])).1 (hst (coded (sbytes ⟨#[115, 104, 97, 114, 101]⟩) [xs, [(k : Int)]])).2.1 1152921504606845789 = coef xs k from rfl] at M1
      have V1 := Lib.hid (V.out.on HD.out)
      go_wp2_with fail
      refine (T1.out _ _ _ (sp2 (Blk.new_at (wr.alloc (.cells #[.int .u8 (k : Int)] 5)) _ _ (by simp)) (V1.out.on (((Below.refl _ _).alloc (Nat.le_refl _) _).alloc (by simp) _)) ((sli_one wr 5 k).on ((Below.refl _ _).alloc (Nat.le_refl _) _)))).mono ?_
      rintro e w1 ⟨rfl, b⟩
      have D1 := Lib.hid (below_on (((Below.refl wr.heap.size wr).alloc (Nat.le_refl _) _).alloc (by simp) _) b)
      clear b
      go_wp2_with fail
      refine (M1.out _).mono ?_; rintro e w2 ⟨rfl, b⟩
      have D2 := Lib.hid (below_on D1.out b)
      have HO2 := Lib.hid (own_below HO.out D2.out)
      have hz2 := D2.out.size
      clear b D1
      have HE := Lib.hid (HD.out.trans (D2.out.mono hz))
      go_wp2_with (at_builtin; refine wpList_append_own _ rfl _ _ 101 rfl w.heap.size 23 i0 (.int .u64 0) 1 8 Tryz.underlying101 HI.out.1 HI.out.2.1 HI.out.2.2.1 HI.out.2.2.2 rfl (by decide) _ _ _ rfl (HO2.out.alloc _) ⟨w2.heap.size, 0, none⟩ 1 1 [.int .u64 (coef xs k)] rfl rfl (cell_one_new _ _ _) (by simp [Value.oneCell']) (by rw [HLen.out]; unfold maxLen; omega) (by rw [HLen.out]; omega) (by simp; omega) ?_; intro v' w3 hown' hgrow _; have HO3 := Lib.hid hown'; have HG := Lib.hid hgrow; clear hown' hgrow)
      go_roundw
      case rel =>
        refine ⟨k + 1, by omega, by omega, by go_num, ?_, ?_⟩
        · rw [HP.out]
          exact own_u HO3.out (by simp) (by simp)
        · refine (HE.out.alloc (by omega) _).grown HG.out (by simp; omega) (fun g e => ?_)
          exact own_ge HO.out g e
      case measure => simp [intOf]; omega
    · obtain rfl : k = T := by omega
      go_wp2_with fail
      go_ret
      exact ⟨_, rfl, HO.out, HD.out⟩

theorem Split_bad (s t n : Int) (s0 : 0 ≤ s) (h : ¬ SplitI s t n) (v : Value) (w : World) :
    Calls Tryz.prog 35 #[.int .u64 s, .int .i64 t, .int .i64 n, v] w fun e w' => e = .returned (.tuple #[.slice none 0 0, .int .i64 1]) ∧ Below w.heap.size w w' := by
  have h : t < 1 ∨ (1 ≤ t ∧ n < t) ∨ (1 ≤ t ∧ t ≤ n ∧ 7 < n) ∨ (1 ≤ t ∧ t ≤ n ∧ n ≤ 7 ∧ 1152921504606845789 ≤ s) := by unfold SplitI at h; omega
  rcases h with h | ⟨h1, h2⟩ | ⟨h1, h2, h3⟩ | ⟨h1, h2, h3, h4⟩
  all_goals
    go_enter Tryz.func35, Tryz.ntmps35
    go_wp2_with fail
    go_ret2
    exact ⟨rfl, Below.refl _ _⟩

set_option maxHeartbeats 8000000 in
theorem Split_ok (s : Int) (T n : Nat) (s0 : 0 ≤ s) (t1 : 1 ≤ T) (tn : T ≤ n) (n7 : n ≤ 7) (s1 : s < 1152921504606845789) (A : Option Addr) (c : Nat) (xs : List Int) (hx : ∀ x ∈ xs, 0 ≤ x ∧ x < 256) (hl : xs.length ≤ 1000) (hc : xs.length ≤ c) (hm : c ≤ maxLen) (w : World) (hs : SI w w.heap.size .u8 A xs) :
    Calls Tryz.prog 35 #[.int .u64 s, .int .i64 (T : Int), .int .i64 (n : Int), .slice A xs.length c] w fun e w' => ∃ v, e = .returned (.tuple #[v, .int .i64 0]) ∧ OwnS w' w.heap.size v (csplit (cpoly s xs T) n) ∧ Below w.heap.size w w' := by
  have P := Lib.hid (polynomial_any s T s0 t1 (by omega) s1 A c xs hx hl hc hm w hs)
  obtain ⟨j0, hj, hy0, hy1, hy2⟩ := info_parts Tryz.info37
  have HJ := Lib.hid (And.intro hj (And.intro hy0 (And.intro hy1 hy2)))
  have HLen := Lib.hid (cpoly_length s xs T)
  have HRB := Lib.hid (cpoly_rb (s := s) xs T ⟨s0, s1⟩)
  have q1 : decide ((T : Int) < 1) = false := decide_eq_false (by omega)
  have q2 : decide (n < T) = false := decide_eq_false (by omega)
  have q3 : decide ((7 : Int) < (n : Int)) = false := decide_eq_false (by omega)
  have q4 : decide (1152921504606845789 ≤ s) = false := decide_eq_false (by omega)
  clear hs hx hm hj hy0 hy1 hy2
  generalize cpoly s xs T = cc at P HLen HRB ⊢
  go_enter Tryz.func35, Tryz.ntmps35
  go_wp2_with fail
  refine P.out.mono ?_; rintro e w1 ⟨v, rfl, ho, hb⟩
  obtain ⟨A1, c1, rfl, l1, m1, s1'⟩ := own_slice ho
  have HS1 := Lib.hid s1'
  have HB1 := Lib.hid hb
  have hz1 := hb.size
  clear ho hb s1' l1 m1 P
  rw [HLen.out]
  go_wp2_with (at_make; refine wpList_make_own _ rfl _ _ 24 rfl w1.heap.size 37 j0 (.agg #[.int .i64 0, .int .u64 0]) 2 Tryz.underlying24 HJ.out.1 HJ.out.2.1 HJ.out.2.2.1 _ _ _ n rfl rfl (by omega) (by rw [HJ.out.2.2.2]; omega) (by unfold maxLen; omega) (by simp) ?_; intro w2 hown2 hgrow2; have HO2 := Lib.hid (own_s (l := []) hown2 rfl rfl); have HG2 := Lib.hid ((Below.refl w1.heap.size w1).grown hgrow2 (Nat.le_refl _) (by simp)); clear hown2 hgrow2)
  have HS2 := Lib.hid (show ∀ wi, Below w1.heap.size w1 wi → SI wi wi.heap.size .u64 A1 cc from fun wi h => HS1.out.on h)
  go_loopw [11, 12] (fun o j wi => ∃ m : Nat, m ≤ n ∧ j = .int .i64 ((m : Int) + 1) ∧ OwnS wi w1.heap.size o (csplit cc m) ∧ Below w1.heap.size w1 wi) (fun _ j _ => (n + 1) - (intOf j).toNat)
  case atStart => exact ⟨0, by omega, rfl, HO2.out, HG2.out⟩
  case round =>
    obtain ⟨m, hm, rfl, ho, hd⟩ := hrel
    have HO5 := Lib.hid ho
    have HD5 := Lib.hid hd
    have hz5 := hd.size
    clear ho hd
    by_cases hmn : m < n
    · have HP := Lib.hid (csplit_succ cc m)
      have HL2 := Lib.hid (csplit_length cc m)
      have hwm : IntKind.u64.wrap ((m : Int) + 1) = (m : Int) + 1 := by rw [IntKind.wrap_u64]; omega
      haveI : IsU ((m : Int) + 1) := ⟨by omega, by omega⟩
      have P1 := Lib.hid (value_any5 A1 T c1 cc HLen.out (by omega) (fun x hx => by have := HRB.out x hx; unfold Rb at this; omega) ((m : Int) + 1))
      go_wp2_with fail
      refine (P1.out _ (HS2.out _ HD5.out)).mono ?_; rintro e w5 ⟨rfl, hd⟩
      have D5 := Lib.hid hd
      have HO6 := Lib.hid (own_below HO5.out D5.out)
      have hz6 := D5.out.size
      clear hd
      go_wp2_with (at_builtin; refine wpList_append_any _ rfl _ _ 24 rfl w1.heap.size 37 j0 (.agg #[.int .i64 0, .int .u64 0]) 2 16 Tryz.underlying24 HJ.out.1 HJ.out.2.1 HJ.out.2.2.1 HJ.out.2.2.2 rfl (by decide) _ _ _ rfl (own_below HO6.out ((Below.refl _ _).alloc (Nat.le_refl _) _)) _ _ 1 _ (cells2 [((m : Int) + 1, pval ((m : Int) + 1) cc)]) rfl (reads_new (Blk.new_at w5 _ _ rfl) 1 rfl) (cells2_one _) (by rw [HL2.out]; unfold maxLen; omega) (by rw [HL2.out]; omega) (by simp; omega) ?_; intro v' w6 hown' hgrow _; have HO7 := Lib.hid hown'; have HG := Lib.hid hgrow; clear hown' hgrow)
      go_roundw
      case rel =>
        refine ⟨m + 1, by omega, by go_num, ?_, ?_⟩
        · rw [HP.out]
          have h := HO7.out
          rw [← cells2_append] at h
          exact own_s h (by simp) rfl
        · refine HD5.out.trans ((((D5.out.mono (by omega)).alloc (by omega) _).grown HG.out (by simp; omega) (fun g e => ?_)))
          exact own_ge HO5.out g e
      case measure => simp [intOf]; omega
    · obtain rfl : m = n := by omega
      go_wp2_with fail
      go_ret2
      exact ⟨_, rfl, Go.Joins.ownsRow_le HO5.out hz1, HB1.out.trans (HD5.out.mono hz1)⟩

set_option maxHeartbeats 4000000 in
theorem Weight_any (A : Option Addr) (c : Nat) (xs : List Int) (hl : xs.length ≤ 1048576) (hlc : xs.length ≤ c) (hm : c ≤ maxLen) (i : Int) (w : World) (hs : SI w w.heap.size .i64 A xs) :
    Calls Tryz.prog 110 #[.slice A xs.length c, .int .i64 i] w fun e w' => WeightE xs i e ∧ Below w.heap.size w w' := by
  have P1 := Lib.hid (right_any A c xs hl hlc _ w hs)
  have P2 := Lib.hid (Contains_any A xs.length c xs rfl hl i _ w hs)
  have P3 := Lib.hid (weights_any A xs.length c 0)
  have B0 := Lib.hid (Below.refl w.heap.size w)
  have HS := Lib.hid hs
  clear hs
  by_cases hr : RightI xs
  · have HR := Lib.hid hr
    by_cases hi : i ∈ xs
    · have hx : ∀ x ∈ xs, 0 ≤ x ∧ x < 9223372036854775808 := fun x hx => by have := right_all hr x hx; omega
      have HI := Lib.hid hi
      have ha := hx i hi
      have W1 := Lib.hid (fun Bi Bp w2 h1 h2 h3 h4 h5 => weigh_any Bi Bp A c xs hl hx i 0 ha.1 ha.2 (by omega) (by omega) (fun k hk e => apart_of (right_apart hr) hi hk (fun g => e g.symm)) w2 h1 h2 h3 h4 h5)
      clear hr hi hx ha
      go_enter Tryz.func110, Tryz.ntmps110
      go_wp2_with fail
      refine P1.out.mono ?_; rintro e w' ⟨⟨b, rfl, hb⟩, rfl⟩
      obtain rfl : b = true := hb.2 HR.out
      clear hb
      go_wp2_with fail
      refine P2.out.mono ?_; rintro e w' ⟨⟨b, rfl, hb⟩, rfl⟩
      obtain rfl : b = true := hb.2 HI.out
      clear hb
      go_wp2_with fail
      refine (P3.out _).mono ?_; rintro e w2 ⟨rfl, rfl⟩
      have B2 := Lib.hid (fun t1 t2 => ((B0.out.alloc (Nat.le_refl _) (.cells #[.slice A xs.length c] t1)).alloc (by simp) (.cells #[.int .i64 0] t2)))
      go_wp2_with fail
      refine (W1.out _ _ _ (by simp; omega) (by simp) (((Blk.new_at _ _ _ rfl).alloc _).cell 0) ((Blk.new_at _ _ _ (by simp)).cell 0) (HS.out.on (B2.out _ _))).mono ?_
      rintro e w3 ⟨rfl, b⟩
      have B3 := Lib.hid (below_on (B2.out 85 3) b)
      clear b
      go_wp2_with fail
      go_ret2
      exact ⟨⟨fun _ => rfl, fun h => absurd ⟨HR.out, HI.out⟩ h⟩, B3.out⟩
    · have HI := Lib.hid hi
      clear hr hi
      go_enter Tryz.func110, Tryz.ntmps110
      go_wp2_with fail
      refine P1.out.mono ?_; rintro e w' ⟨⟨b, rfl, hb⟩, rfl⟩
      obtain rfl : b = true := hb.2 HR.out
      clear hb
      go_wp2_with fail
      refine P2.out.mono ?_; rintro e w' ⟨⟨b, rfl, hb⟩, rfl⟩
      obtain rfl : b = false := Bool.eq_false_iff.2 (fun h => HI.out (hb.1 h))
      clear hb
      go_wp2_with fail
      go_ret2
      exact ⟨⟨fun h => absurd h.2 HI.out, fun _ => rfl⟩, B0.out⟩
  · have HR := Lib.hid hr
    clear hr
    go_enter Tryz.func110, Tryz.ntmps110
    go_wp2_with fail
    refine P1.out.mono ?_; rintro e w' ⟨⟨b, rfl, hb⟩, rfl⟩
    obtain rfl : b = false := Bool.eq_false_iff.2 (fun h => HR.out (hb.1 h))
    clear hb
    go_wp2_with fail
    go_ret2
    exact ⟨⟨fun h => absurd h.1 HR.out, fun _ => rfl⟩, B0.out⟩

set_option maxHeartbeats 8000000 in
theorem Join_any (A : Option Addr) (c : Nat) (l : List (Int × Int)) (ids : List Int) (hids : l.map Prod.fst = ids) (hl : l.length ≤ 1048576) (hlc : l.length ≤ c) (hm : c ≤ maxLen) (hu : ∀ p ∈ l, 0 ≤ p.2 ∧ p.2 < 18446744073709551616) (w : World) (hs : SS w w.heap.size A l) :
    Calls Tryz.prog 31 #[.slice A l.length c] w fun e w' => JoinE ids l e ∧ Below w.heap.size w w' := by
  have B0 := Lib.hid (Below.refl w.heap.size w)
  have HS := Lib.hid hs
  have HN := Lib.hid (show ids.length = l.length by rw [← hids]; simp)
  have P1 := Lib.hid (idsOf_any A l.length c l rfl hl)
  rw [hids] at P1
  have P2 := Lib.hid (fun A c w h1 h2 => right_any A c ids (by rw [HN.out]; exact hl) h1 w.heap.size w h2)
  have P3 := Lib.hid (allBelow_any A l.length c l rfl hl hu)
  rw [HN.out] at P2
  by_cases h0 : l = []
  · subst h0
    clear hids hl hs hu
    go_enter Tryz.func31, Tryz.ntmps31
    go_wp2_with fail
    go_ret2
    exact ⟨⟨fun _ => rfl, fun h => absurd rfl h, fun h => absurd rfl h⟩, B0.out⟩
  · have h00 : 0 < l.length := List.length_pos_iff.2 h0
    have H0 := Lib.hid h0
    by_cases hr : RightI ids
    · have HR := Lib.hid hr
      by_cases hb : (l.all fun p => decide (p.2 < 1152921504606845789)) = true
      · have HB := Lib.hid hb
        rw [hb] at P3
        have hmem : ∀ p ∈ l, p.1 ∈ ids := fun p hp => by rw [← hids]; exact List.mem_map_of_mem hp
        have P4 := Lib.hid (fun Bw Bi Bp W hs hw => throughJ_any A l.length c l rfl hl hu Bw Bi Bp 0 ids (by omega) (by omega) hr hmem W hs hw)
        clear hids hs hu h0 hr hb hmem
        go_enter Tryz.func31, Tryz.ntmps31
        go_wp2_with fail
        refine (P1.out _ HS.out).mono ?_; rintro e w1 ⟨v, rfl, ho, b⟩
        obtain ⟨A', c', rfl, hc1, hc2, hs1, _⟩ := own_sliceI ho
        have HI1 := Lib.hid hs1
        have B1 := Lib.hid (below_on B0.out b)
        clear ho b hs1
        rw [HN.out] at hc1 ⊢
        go_wp2_with fail
        refine (P2.out _ _ _ hc1 HI1.out).mono ?_; rintro e w' ⟨⟨b, rfl, hb⟩, rfl⟩
        obtain rfl : b = true := hb.2 HR.out
        clear hb
        go_wp2_with fail
        refine (P3.out _ (HS.out.on B1.out)).mono ?_; rintro e w2 ⟨rfl, b⟩
        have B2 := Lib.hid (below_on B1.out b)
        clear b
        go_wp2_with fail
        refine (P1.out _ (HS.out.on B2.out)).mono ?_; rintro e w3 ⟨v, rfl, ho, b⟩
        obtain ⟨A3, c3, rfl, hc3, hc4, hs3, _⟩ := own_sliceI ho
        have HI3 := Lib.hid hs3
        have B3 := Lib.hid (below_on B2.out b)
        clear ho b hs3
        rw [HN.out] at hc3 ⊢
        go_wp2_with fail
        refine (weights_any A3 l.length c3 0 w3).mono ?_; rintro e w4 ⟨rfl, hw4⟩
        have W0 := Lib.hid (fun t3 => wbox_new (c := c3) (pl := 0) HN.out HI3.out _ _ t3 hw4)
        have B4 := Lib.hid (below_on B3.out (two_new hw4))
        clear hw4
        go_wp2_with fail
        have B5 := Lib.hid (fun o => below_on B4.out ((Below.refl w4.heap.size w4).alloc (Nat.le_refl _) o))
        refine (P4.out _ _ _ _ (HS.out.on (B5.out _)) (W0.out _)).mono ?_; rintro e w5 ⟨rfl, b⟩
        have B6 := Lib.hid (below_on (B5.out _) b)
        clear b
        go_wp2_with fail
        go_ret2
        exact ⟨⟨fun h => absurd h H0.out, fun _ _ => rfl, fun _ h => absurd ⟨HR.out, HB.out⟩ h⟩, B6.out⟩
      · have HB := Lib.hid hb
        rw [Bool.eq_false_iff.2 hb] at P3
        clear hids hs hu h0 hr hb
        go_enter Tryz.func31, Tryz.ntmps31
        go_wp2_with fail
        refine (P1.out _ HS.out).mono ?_; rintro e w1 ⟨v, rfl, ho, b⟩
        obtain ⟨A', c', rfl, hc1, hc2, hs1, _⟩ := own_sliceI ho
        have HI1 := Lib.hid hs1
        have B1 := Lib.hid (below_on B0.out b)
        clear ho b hs1
        rw [HN.out] at hc1 ⊢
        go_wp2_with fail
        refine (P2.out _ _ _ hc1 HI1.out).mono ?_; rintro e w' ⟨⟨b, rfl, hb⟩, rfl⟩
        obtain rfl : b = true := hb.2 HR.out
        clear hb
        go_wp2_with fail
        refine (P3.out _ (HS.out.on B1.out)).mono ?_; rintro e w2 ⟨rfl, b⟩
        have B2 := Lib.hid (below_on B1.out b)
        clear b
        go_wp2_with fail
        go_ret2
        exact ⟨⟨fun h => absurd h H0.out, fun _ h => absurd h.2 HB.out, fun _ _ => rfl⟩, B2.out⟩
    · have HR := Lib.hid hr
      clear hids hs hu h0 hr
      go_enter Tryz.func31, Tryz.ntmps31
      go_wp2_with fail
      refine (P1.out _ HS.out).mono ?_; rintro e w1 ⟨v, rfl, ho, b⟩
      obtain ⟨A', c', rfl, hc1, hc2, hs1, _⟩ := own_sliceI ho
      have HI1 := Lib.hid hs1
      have B1 := Lib.hid (below_on B0.out b)
      clear ho b hs1
      rw [HN.out] at hc1 ⊢
      go_wp2_with fail
      refine (P2.out _ _ _ hc1 HI1.out).mono ?_; rintro e w' ⟨⟨b, rfl, hb⟩, rfl⟩
      obtain rfl : b = false := Bool.eq_false_iff.2 (fun h => HR.out (hb.1 h))
      clear hb
      go_wp2_with fail
      go_ret2
      exact ⟨⟨fun h => absurd h H0.out, fun _ h => absurd h.1 HR.out, fun _ _ => rfl⟩, B1.out⟩

set_option maxHeartbeats 8000000 in
theorem Public_any (A : Option Addr) (c : Nat) (l : List (Int × Int)) (ids : List Int) (hids : l.map Prod.fst = ids) (hl : l.length ≤ 1048576) (hlc : l.length ≤ c) (hm : c ≤ maxLen) (hu : ∀ p ∈ l, 0 ≤ p.2 ∧ p.2 < 18446744073709551616) (w : World) (hs : SS w w.heap.size A l) :
    Calls Tryz.prog 32 #[.slice A l.length c] w fun e w' => PublicE w ids l e w' ∧ Below w.heap.size w w' := by
  have B0 := Lib.hid (Below.refl w.heap.size w)
  have HS := Lib.hid hs
  have HN := Lib.hid (show ids.length = l.length by rw [← hids]; simp)
  have P1 := Lib.hid (idsOf_any A l.length c l rfl hl)
  rw [hids] at P1
  have P2 := Lib.hid (fun A c w h1 h2 => right_any A c ids (by rw [HN.out]; exact hl) h1 w.heap.size w h2)
  have P3 := Lib.hid (allBelow_any A l.length c l rfl hl hu)
  have P4 := Lib.hid (throughS_any A l.length c l rfl hl hu)
  rw [HN.out] at P2
  by_cases hr : RightI ids
  · have HR := Lib.hid hr
    by_cases hb : (l.all fun p => decide (p.2 < 1152921504606845789)) = true
    · have HB := Lib.hid hb
      rw [hb] at P3
      clear hids hs hu hr hb
      go_enter Tryz.func32, Tryz.ntmps32
      go_wp2_with fail
      refine (P1.out _ HS.out).mono ?_; rintro e w1 ⟨v, rfl, ho, b⟩
      obtain ⟨A', c', rfl, hc1, hc2, hs1, _⟩ := own_sliceI ho
      have HI1 := Lib.hid hs1
      have B1 := Lib.hid (below_on B0.out b)
      clear ho b hs1
      rw [HN.out] at hc1 ⊢
      go_wp2_with fail
      refine (P2.out _ _ _ hc1 HI1.out).mono ?_; rintro e w' ⟨⟨b, rfl, hb⟩, rfl⟩
      obtain rfl : b = true := hb.2 HR.out
      clear hb
      go_wp2_with fail
      refine (P3.out _ (HS.out.on B1.out)).mono ?_; rintro e w2 ⟨rfl, b⟩
      have B2 := Lib.hid (below_on B1.out b)
      clear b
      go_wp2_with fail
      refine (P4.out _ (HS.out.on B2.out)).mono ?_; rintro e w3 ⟨v, rfl, ho, b⟩
      have HO := Lib.hid (Go.Joins.ownsRow_le ho B2.out.size)
      have B3 := Lib.hid (below_on B2.out b)
      clear ho b
      go_wp2_with fail
      go_ret2
      exact ⟨⟨fun _ => ⟨_, rfl, HO.out⟩, fun h => absurd ⟨HR.out, HB.out⟩ h⟩, B3.out⟩
    · have HB := Lib.hid hb
      rw [Bool.eq_false_iff.2 hb] at P3
      clear hids hs hu hr hb
      go_enter Tryz.func32, Tryz.ntmps32
      go_wp2_with fail
      refine (P1.out _ HS.out).mono ?_; rintro e w1 ⟨v, rfl, ho, b⟩
      obtain ⟨A', c', rfl, hc1, hc2, hs1, _⟩ := own_sliceI ho
      have HI1 := Lib.hid hs1
      have B1 := Lib.hid (below_on B0.out b)
      clear ho b hs1
      rw [HN.out] at hc1 ⊢
      go_wp2_with fail
      refine (P2.out _ _ _ hc1 HI1.out).mono ?_; rintro e w' ⟨⟨b, rfl, hb⟩, rfl⟩
      obtain rfl : b = true := hb.2 HR.out
      clear hb
      go_wp2_with fail
      refine (P3.out _ (HS.out.on B1.out)).mono ?_; rintro e w2 ⟨rfl, b⟩
      have B2 := Lib.hid (below_on B1.out b)
      clear b
      go_wp2_with fail
      go_ret2
      exact ⟨⟨fun h => absurd h.2 HB.out, fun _ => rfl⟩, B2.out⟩
  · have HR := Lib.hid hr
    clear hids hs hu hr
    go_enter Tryz.func32, Tryz.ntmps32
    go_wp2_with fail
    refine (P1.out _ HS.out).mono ?_; rintro e w1 ⟨v, rfl, ho, b⟩
    obtain ⟨A', c', rfl, hc1, hc2, hs1, _⟩ := own_sliceI ho
    have HI1 := Lib.hid hs1
    have B1 := Lib.hid (below_on B0.out b)
    clear ho b hs1
    rw [HN.out] at hc1 ⊢
    go_wp2_with fail
    refine (P2.out _ _ _ hc1 HI1.out).mono ?_; rintro e w' ⟨⟨b, rfl, hb⟩, rfl⟩
    obtain rfl : b = false := Bool.eq_false_iff.2 (fun h => HR.out (hb.1 h))
    clear hb
    go_wp2_with fail
    go_ret2
    exact ⟨⟨fun h => absurd h.1 HR.out, fun _ => rfl⟩, B1.out⟩
end Go.Proofs.YtlannmedefjfhaaGreat

/- What package share answers: whether public shares fit. -/
namespace Go.Proofs.YtlannmedefjfhaaGreat
open Go.ChangeShapes Go.WideShapes Go.ChangeAt Go.RowKit Gs
set_option linter.unusedVariables false

theorem right_take {ids : List Int} {T : Nat} (h : RightI ids) (t1 : 1 ≤ T) (tl : T ≤ ids.length) : RightI (ids.take T) := by
  have hl : (ids.take T).length = T := by rw [List.length_take]; omega
  refine ⟨by omega, by have := h.2.1; omega, fun i hi => ?_⟩
  have := h.2.2 i (by omega)
  simp only [List.getElem_take]
  exact this
theorem SS.drop {w : World} {B : Nat} {ad : Addr} {l : List (Int × Int)} (h : SS w B (some ad) l) (T : Nat) : SS w B (some (ad.add (T * 2))) (l.drop T) := fun j hj => by
  have hj' : T + j < l.length := by rw [List.length_drop] at hj; omega
  obtain ⟨ad', e, hb, c0, c1⟩ := h (T + j) hj'
  cases e
  refine ⟨_, rfl, by rw [block_of_add]; exact hb, ?_⟩
  rw [add_of_add, show T * 2 + j * 2 = (T + j) * 2 by omega, List.getElem_drop]
  exact ⟨c0, c1⟩
theorem grp_all {l : List (Int × Int)} : (l.all fun p => qin p.2) = true ↔ Grp l := by
  rw [List.all_eq_true]
  constructor
  · intro h i hi; exact h _ (List.getElem_mem hi)
  · intro h p hp
    obtain ⟨i, hi, rfl⟩ := List.getElem_of_mem hp
    exact h i hi

set_option maxRecDepth 100000 in
set_option maxHeartbeats 8000000 in
theorem Check_fit (T : Nat) (A : Option Addr) (c : Nat) (l : List (Int × Int)) (ids : List Int) (hids : l.map Prod.fst = ids) (hlc : l.length ≤ c) (hm : c ≤ maxLen) (hu : ∀ p ∈ l, 0 ≤ p.2 ∧ p.2 < 18446744073709551616) (t1 : 1 ≤ T) (t7 : T ≤ 7) (hr : RightI ids) (hg : Grp l) (htl : T ≤ l.length) (w : World) (hs : SS w w.heap.size A l) :
    Calls Tryz.prog 95 #[.int .i64 (T : Int), .slice A l.length c] w fun e w' => CheckE (T : Int) ids l e ∧ Below w.heap.size w w' := by
  have B0 := Lib.hid (Below.refl w.heap.size w)
  have HS := Lib.hid hs
  have HN := Lib.hid (show ids.length = l.length by rw [← hids]; simp)
  have hl : l.length ≤ 7 := by have := hr.2.1; rw [HN.out] at this; exact this
  have P1 := Lib.hid (idsOf_any A l.length c l rfl (by omega))
  rw [hids] at P1
  have P2 := Lib.hid (fun A c w h1 h2 => right_any A c ids (by rw [HN.out]; omega) h1 w.heap.size w h2)
  rw [HN.out] at P2
  have P3 := Lib.hid (allIn_any A l.length c l rfl (by omega) hu)
  rw [grp_all.2 hg] at P3
  have P4 := Lib.hid (fun i i0 i1 w hs => publicAt_any A T c (l.take T) (by rw [List.length_take]; omega) (ids.take T) (by rw [List.map_take, hids]) (fun p hp => hu p (List.mem_of_mem_take hp)) (right_take hr t1 (by rw [HN.out]; exact htl)) i i0 i1 w hs)
  have HB := Lib.hid (show ¬ BadArg (T : Int) ids by unfold BadArg; rintro (h | h | ⟨_, h⟩) <;> first | omega | exact h hr)
  have HG := Lib.hid hg
  have HR := Lib.hid hr
  have HU := Lib.hid hu
  have HI := Lib.hid (show ∀ i (h : i < l.length), l[i].1 ∈ ids by intro i h; rw [← hids]; exact List.mem_map_of_mem (List.getElem_mem h))
  obtain ⟨ad, rfl, _⟩ := hs 0 (by omega)
  clear hids hu hr hg hs
  have q1 : decide ((T : Int) < 1) = false := decide_eq_false (by omega)
  have q2 : decide ((7 : Int) < (T : Int)) = false := decide_eq_false (by omega)
  have q3 : decide ((0 : Int) < (l.length : Int)) = true := decide_eq_true (by omega)
  have q4 : decide ((l.length : Int) < (T : Int)) = false := decide_eq_false (by omega)
  have htc : T ≤ c := by omega
  go_enter Tryz.func95, Tryz.ntmps95
  go_wp2_with fail
  refine (P1.out _ HS.out).mono ?_; rintro e w1 ⟨v, rfl, ho, b⟩
  obtain ⟨A', c', rfl, hc1, hc2, hs1, _⟩ := own_sliceI ho
  have HI1 := Lib.hid hs1
  have B1 := Lib.hid (below_on B0.out b)
  clear ho b hs1
  rw [HN.out] at hc1 ⊢
  go_wp2_with fail
  refine (P2.out _ _ _ hc1 HI1.out).mono ?_; rintro e w' ⟨⟨b, rfl, hb⟩, rfl⟩
  obtain rfl : b = true := hb.2 HR.out
  clear hb
  go_wp2_with fail
  refine (P3.out _ (HS.out.on B1.out)).mono ?_; rintro e w2 ⟨rfl, b⟩
  have B2 := Lib.hid (below_on B1.out b)
  clear b
  go_wp2_with fail
  go_quiet (fail)
  go_wp2_with fail
  · have q5 : decide ((0 : Int) < ((l.length - T : Nat) : Int)) = false := decide_eq_false (by omega)
    refine wp_loop_rounds 1 ?_
    rw [rounds_succ]
    go_wp2_with fail
    go_ret
    exact ⟨check_is (.inr ⟨HB.out, HG.out, .inr ⟨by omega, .inr ⟨rfl, fun i h g => by omega⟩⟩⟩), B2.out.trans (((Dr.refl w2).drewN _).below _)⟩
  · have B3 := Lib.hid (B2.out.trans (((Dr.refl w2).drewN nq).below _))
    have HE : l.length - T = l.length - T := rfl
    obtain ⟨d, hd⟩ : ∃ d, l.length - T = d := ⟨_, rfl⟩
    rw [hd]
    clear HE
    go_loopw [43] (fun j wr => ∃ m : Nat, m ≤ d ∧ j = .int .i64 m ∧ (∀ i (h : i < l.length), T ≤ i → i < T + m → qat (ids.take T) l[i].1 (l.take T) = l[i].2) ∧ Below w.heap.size w wr) (fun j _ => d - (intOf j).toNat)
    case atStart => exact ⟨0, by omega, rfl, fun i h g g' => by omega, B3.out⟩
    case round =>
      obtain ⟨m, hmd, rfl, hq, hb⟩ := hrel
      have HQ := Lib.hid hq
      have HD := Lib.hid hb
      have hz := hb.size
      clear hq hb
      by_cases hlt : m < d
      · have hlt' : T + m < l.length := by omega
        have hxi := right_all HR.out l[T + m].1 (HI.out (T + m) hlt')
        have P5 := Lib.hid (P4.out l[T + m].1 (by omega) (by omega))
        have hx := HU.out l[T + m] (List.getElem_mem hlt')
        haveI : IsU l[T + m].2 := ⟨hx.1, hx.2⟩
        have HT := Lib.hid ((HS.out.below HD.out).take T)
        have HF := Lib.hid (fun (q : qat (ids.take T) l[T + m].1 (l.take T) = l[T + m].2) => (show ∀ i (h : i < l.length), T ≤ i → i < T + (m + 1) → qat (ids.take T) l[i].1 (l.take T) = l[i].2 from fun i h g g' => by
          by_cases e : i = T + m
          · subst e; exact q
          · exact HQ.out i h g (by omega)))
        have HF2 := Lib.hid (fun (q : qat (ids.take T) l[T + m].1 (l.take T) ≠ l[T + m].2) => (show ¬ Fits (T : Int).toNat ids l from fun h => q (h (T + m) hlt' (by omega))))
        have hss := (HS.out.below HD.out).drop T m (by rw [List.length_drop]; omega)
        simp only [List.getElem_drop] at hss
        obtain ⟨ad', e', had, c0, c1⟩ := hss
        cases e'
        have hxi0 := hxi.1
        clear hxi hx
        generalize hp : l[T + m] = p at *
        generalize hqv : qat (ids.take T) p.1 (l.take T) = z at *
        go_wp2_with fail
        have k0 : (wr.alloc (.cells #[.int .i64 p.1, .int .u64 p.2] 37)).cell? ⟨wr.heap.size, 0, none⟩ = some (.int .i64 p.1) := (Blk.new wr 37 #[.int .i64 p.1, .int .u64 p.2]).cell 0
        have k1 : (wr.alloc (.cells #[.int .i64 p.1, .int .u64 p.2] 37)).cell? ⟨wr.heap.size, 1, none⟩ = some (.int .u64 p.2) := (Blk.new wr 37 #[.int .i64 p.1, .int .u64 p.2]).cell 1
        clear c0 c1
        refine wp_named (fun W => W.cell? ⟨wr.heap.size, 0, none⟩ = some (.int .i64 p.1) ∧ W.cell? ⟨wr.heap.size, 1, none⟩ = some (.int .u64 p.2) ∧ Below w.heap.size w W ∧ wr.heap.size < W.heap.size) ⟨k0, k1, HD.out.alloc hz _, by simp⟩ ?_
        clear k0 k1
        rintro W ⟨c0, c1, hD, hzW⟩
        have D0 := Lib.hid hD
        have HTW := Lib.hid (fun wi (h : Below W.heap.size W wi) => ((HS.out.on hD).take T).on h)
        clear hD HT
        have hd2 : W.heap.size ≤ W.drew.heap.size := Nat.le_refl _
        by_cases hq : z = p.2
        · have hb : (p.2 != z) = false := by simp [hq]
          have HQ2 := Lib.hid (HF.out hq)
          clear HF HF2 hq
          go_region_held_law (fun w' => w'.cell? ⟨wr.heap.size, 0, none⟩ = some (.int .i64 p.1) ∧ w'.cell? ⟨wr.heap.size, 1, none⟩ = some (.int .u64 p.2)) (first | exact ⟨by assumption, by assumption⟩ | go_keep)
            (first
              | (go_at_call 133; refine (P5.out _ (HTW.out _ (Below.refl W.heap.size W).drew)).mono ?_; rintro e w5 ⟨rfl, b5⟩; have hW := (Below.refl W.heap.size W).drew.trans (b5.mono (by omega)); have k0 := (hW.cell (p := ⟨wr.heap.size, 0, none⟩) hzW).trans c0; have k1 := (hW.cell (p := ⟨wr.heap.size, 1, none⟩) hzW).trans c1))
          have HX := Lib.hid (D0.out.trans (hW.mono D0.out.size))
          clear hW k0 k1 c0 c1
          go_wp2_with fail
          go_roundw
          case rel => exact ⟨m + 1, by omega, by go_num, HQ2.out, HX.out⟩
          case measure => simp [intOf]; omega
        · have hb : (p.2 != z) = true := by simp; exact fun h => hq h.symm
          have HQ2 := Lib.hid (HF2.out hq)
          clear HF HF2 hq
          go_region_held_law (fun w' => w'.cell? ⟨wr.heap.size, 0, none⟩ = some (.int .i64 p.1) ∧ w'.cell? ⟨wr.heap.size, 1, none⟩ = some (.int .u64 p.2)) (first | exact ⟨by assumption, by assumption⟩ | go_keep)
            (first
              | (go_at_call 133; refine (P5.out _ (HTW.out _ (Below.refl W.heap.size W).drew)).mono ?_; rintro e w5 ⟨rfl, b5⟩; have hW := (Below.refl W.heap.size W).drew.trans (b5.mono (by omega)); have k0 := (hW.cell (p := ⟨wr.heap.size, 0, none⟩) hzW).trans c0; have k1 := (hW.cell (p := ⟨wr.heap.size, 1, none⟩) hzW).trans c1))
          have HX := Lib.hid (D0.out.trans (hW.mono D0.out.size))
          clear hW k0 k1 c0 c1
          go_wp2_with fail
          go_ret
          exact ⟨check_is (.inr ⟨HB.out, HG.out, .inr ⟨by omega, .inl ⟨rfl, HQ2.out⟩⟩⟩), HX.out⟩
      · obtain rfl : m = d := by omega
        go_wp2_with fail
        go_ret
        exact ⟨check_is (.inr ⟨HB.out, HG.out, .inr ⟨by omega, .inr ⟨rfl, fun i h g => HQ.out i h g (by omega)⟩⟩⟩), HD.out⟩

set_option maxHeartbeats 8000000 in
theorem Check_any5 (t : Int) (A : Option Addr) (c : Nat) (l : List (Int × Int)) (ids : List Int) (hids : l.map Prod.fst = ids) (hl : l.length ≤ 1048576) (hlc : l.length ≤ c) (hm : c ≤ maxLen) (hu : ∀ p ∈ l, 0 ≤ p.2 ∧ p.2 < 18446744073709551616) (w : World) (hs : SS w w.heap.size A l) :
    Calls Tryz.prog 95 #[.int .i64 t, .slice A l.length c] w fun e w' => CheckE t ids l e ∧ Below w.heap.size w w' := by
  have B0 := Lib.hid (Below.refl w.heap.size w)
  have HS := Lib.hid hs
  have HN := Lib.hid (show ids.length = l.length by rw [← hids]; simp)
  by_cases h1 : t < 1
  · clear hids hu hs
    have HB := Lib.hid (show BadArg t ids from .inl h1)
    go_enter Tryz.func95, Tryz.ntmps95
    go_wp2_with fail
    go_ret
    exact ⟨check_is (.inl ⟨rfl, .inl HB.out⟩), B0.out⟩
  by_cases h7 : 7 < t
  · clear hids hu hs
    have HB := Lib.hid (show BadArg t ids from .inr (.inl h7))
    go_enter Tryz.func95, Tryz.ntmps95
    go_wp2_with fail
    go_ret
    exact ⟨check_is (.inl ⟨rfl, .inl HB.out⟩), B0.out⟩
  have P1 := Lib.hid (idsOf_any A l.length c l rfl hl)
  rw [hids] at P1
  have P2 := Lib.hid (fun A c w h1 h2 => right_any A c ids (by rw [HN.out]; exact hl) h1 w.heap.size w h2)
  rw [HN.out] at P2
  have P3 := Lib.hid (allIn_any A l.length c l rfl hl hu)
  by_cases h0 : l = []
  · subst h0
    have HB := Lib.hid (show ¬ BadArg t ids by unfold BadArg; rintro (h | h | ⟨h, _⟩) <;> first | omega | (rw [HN.out] at h; simp at h))
    have ht : decide ((0 : Int) < t) = true := decide_eq_true (by omega)
    clear hids hu hs
    go_enter Tryz.func95, Tryz.ntmps95
    go_wp2_with fail
    refine (P3.out _ HS.out).mono ?_; rintro e w2 ⟨rfl, b⟩
    have B2 := Lib.hid (below_on B0.out b)
    clear b
    go_wp2_with fail
    go_ret
    exact ⟨check_is (.inr ⟨HB.out, fun i h => by simp at h, .inl ⟨rfl, by simp; omega⟩⟩), B2.out⟩
  have h00 : 0 < l.length := List.length_pos_iff.2 h0
  by_cases hr : RightI ids
  · have HR := Lib.hid hr
    have HB := Lib.hid (show ¬ BadArg t ids by unfold BadArg; rintro (h | h | ⟨_, h⟩) <;> first | omega | exact h hr)
    by_cases hg : Grp l
    · by_cases hlt : (l.length : Int) < t
      · have HG := Lib.hid hg
        rw [grp_all.2 hg] at P3
        clear hids hu hs hr hg h0
        go_enter Tryz.func95, Tryz.ntmps95
        go_wp2_with fail
        refine (P1.out _ HS.out).mono ?_; rintro e w1 ⟨v, rfl, ho, b⟩
        obtain ⟨A', c', rfl, hc1, hc2, hs1, _⟩ := own_sliceI ho
        have HI1 := Lib.hid hs1
        have B1 := Lib.hid (below_on B0.out b)
        clear ho b hs1
        rw [HN.out] at hc1 ⊢
        go_wp2_with fail
        refine (P2.out _ _ _ hc1 HI1.out).mono ?_; rintro e w' ⟨⟨b, rfl, hb⟩, rfl⟩
        obtain rfl : b = true := hb.2 HR.out
        clear hb
        go_wp2_with fail
        refine (P3.out _ (HS.out.on B1.out)).mono ?_; rintro e w2 ⟨rfl, b⟩
        have B2 := Lib.hid (below_on B1.out b)
        clear b
        go_wp2_with fail
        go_ret
        exact ⟨check_is (.inr ⟨HB.out, HG.out, .inl ⟨rfl, hlt⟩⟩), B2.out⟩
      · obtain ⟨T, rfl⟩ := Int.eq_ofNat_of_zero_le (show 0 ≤ t by omega)
        exact Check_fit T A c l ids hids hlc hm hu (by omega) (by omega) hr hg (by omega) w hs
    · have HG := Lib.hid hg
      rw [Bool.eq_false_iff.2 (fun h => hg (grp_all.1 h))] at P3
      clear hids hu hs hr hg h0
      go_enter Tryz.func95, Tryz.ntmps95
      go_wp2_with fail
      refine (P1.out _ HS.out).mono ?_; rintro e w1 ⟨v, rfl, ho, b⟩
      obtain ⟨A', c', rfl, hc1, hc2, hs1, _⟩ := own_sliceI ho
      have HI1 := Lib.hid hs1
      have B1 := Lib.hid (below_on B0.out b)
      clear ho b hs1
      rw [HN.out] at hc1 ⊢
      go_wp2_with fail
      refine (P2.out _ _ _ hc1 HI1.out).mono ?_; rintro e w' ⟨⟨b, rfl, hb⟩, rfl⟩
      obtain rfl : b = true := hb.2 HR.out
      clear hb
      go_wp2_with fail
      refine (P3.out _ (HS.out.on B1.out)).mono ?_; rintro e w2 ⟨rfl, b⟩
      have B2 := Lib.hid (below_on B1.out b)
      clear b
      go_wp2_with fail
      go_ret
      exact ⟨check_is (.inl ⟨rfl, .inr ⟨HB.out, HG.out⟩⟩), B2.out⟩
  · have HR := Lib.hid hr
    have HB := Lib.hid (show BadArg t ids from .inr (.inr ⟨by rw [HN.out]; omega, hr⟩))
    clear hids hu hs hr h0
    go_enter Tryz.func95, Tryz.ntmps95
    go_wp2_with fail
    refine (P1.out _ HS.out).mono ?_; rintro e w1 ⟨v, rfl, ho, b⟩
    obtain ⟨A', c', rfl, hc1, hc2, hs1, _⟩ := own_sliceI ho
    have HI1 := Lib.hid hs1
    have B1 := Lib.hid (below_on B0.out b)
    clear ho b hs1
    rw [HN.out] at hc1 ⊢
    go_wp2_with fail
    refine (P2.out _ _ _ hc1 HI1.out).mono ?_; rintro e w' ⟨⟨b, rfl, hb⟩, rfl⟩
    obtain rfl : b = false := Bool.eq_false_iff.2 (fun h => HR.out (hb.1 h))
    clear hb
    go_wp2_with fail
    go_ret
    exact ⟨check_is (.inl ⟨rfl, .inl HB.out⟩), B1.out⟩
end Go.Proofs.YtlannmedefjfhaaGreat

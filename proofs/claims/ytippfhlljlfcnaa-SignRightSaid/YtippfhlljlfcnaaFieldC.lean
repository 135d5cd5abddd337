/- The elements that bytes are, by a range over a function. -/
import Derived.Test.YtippfhlljlfcnaaFieldB
import Derived.RangeFuncNested
import Derived.RangeFuncBound
import Derived.RangeFuncCalls
import Derived.RangeFuncLeaves
import Derived.RangeFuncBox
import Derived.Shelf.Abstract
import Derived.Shelf.RegionOpen
import Derived.WalkKit
import Derived.OwnWalkIn
import Derived.TacticsInMore
import Derived.LoopNIn
import Derived.LoopIn
import Derived.Maps.AppendAt
namespace Go.Proofs.Ytippfhlljlfcnaa
open Go.ChangeShapes Go.WideShapes Go.ChangeAt Go.RowKit Go.Shelf Gs
set_option linter.unusedVariables false

attribute [local go_sem] Oper.semAt_some

theorem add_of_add (a : Addr) (i j : Nat) : (a.add i).add j = a.add (i + j) := by
  unfold Addr.add
  by_cases hi : i = 0 <;> by_cases hj : j = 0 <;> simp [hi, hj, Nat.add_assoc]

theorem SI.part {w : World} {B : Nat} {k : IntKind} {ad : Addr} {xs : List Int} (h : SI w B k (some ad) xs) (i n : Nat) (hn : i + n ≤ xs.length) : SI w B k (some (ad.add i)) ((xs.drop i).take n) := fun j hj => by
  have hj' : j < n := by rw [List.length_take] at hj; omega
  obtain ⟨ad', e, hb, hc⟩ := h (i + j) (by omega)
  cases e
  refine ⟨_, rfl, by rw [block_of_add]; exact hb, ?_⟩
  rw [add_of_add, hc, List.getElem?_take_of_lt hj', List.getElem?_drop]

theorem number_len (A : Option Addr) (n c : Nat) (v : Int) (xs : List Int) (hn : xs.length = n) (hv : num xs = v) (hx : ∀ x ∈ xs, 0 ≤ x ∧ x < 256) (h7 : n ≤ 7) (B : Nat) (w : World) (hs : SI w B .u8 A xs) :
    Calls Try.prog 91 #[.slice A n c] w fun e w' => e = .returned (.int .u64 v) ∧ w = w' := by
  subst hn hv; exact number_any A c xs hx h7 B w hs

/-- What lay below block n₀, and block Bs, is as it was. -/
def KB (n₀ Bs : Nat) (W W' : World) : Prop := Below n₀ W W' ∧ W'.heap[Bs]? = W.heap[Bs]?
theorem KB.refl (n₀ Bs : Nat) (W : World) : KB n₀ Bs W W := ⟨Below.refl _ _, rfl⟩
theorem KB.trans {n₀ Bs : Nat} {A B C : World} (h : KB n₀ Bs A B) (k : KB n₀ Bs B C) : KB n₀ Bs A C := ⟨h.1.trans k.1, k.2.trans h.2⟩
theorem KB.put {n₀ Bs : Nat} {w : World} (hn : n₀ ≤ w.heap.size) (hb : Bs < w.heap.size) (W : World) (l : Nat) (o o' : Obj) (hl : w.heap.size ≤ l) (h : W.heap[l]? = some o) (h1 : o.isCells = false) (h2 : o.isWalk = false) : KB n₀ Bs W (W.putObj l o') :=
  ⟨belowK_b hn W l o o' hl h h1 h2, (grownBy_putObj' W l o').block Bs (by have := (Array.getElem?_eq_some_iff.1 h).1; omega) (fun e => by cases e; omega)⟩

set_option maxRecDepth 100000 in
set_option maxHeartbeats 1000000 in
theorem each_in (n : Nat) (hn : 1 ≤ n) (l Bs n₀ : Nat) (A : Option Addr) (c : Nat) (xs : List Int) (hx : ∀ x ∈ xs, 0 ≤ x ∧ x < 256) (hl : xs.length ≤ 70368744177664) (hcap : xs.length ≤ c) (J Jx : List Int → World → Prop)
    (hY : ∀ pre x W, J pre W → pre.length < (xs.length + 6) / 7 → YieldAt Fence.wide (n - 1) Try.prog l #[.int .u64 x] W fun e W' =>
      (e = .returned (.bool true) ∧ J (pre ++ [x]) W' ∧ KB n₀ Bs W W') ∨ (e = .returned (.bool false) ∧ Jx (pre ++ [x]) W'))
    (W : World) (hBs : W.cell? ⟨Bs, 0, none⟩ = some (.slice A xs.length c)) (hs : SI W n₀ .u8 A xs) (h0 : J [] W) :
    CallsIn Fence.wide n Try.prog 90 #[.func (.yield l) #[] #[], .pointer (some ⟨Bs, 0, none⟩)] W fun e W' => (∃ v, e = .returned v) ∧
      ((∃ ys, ys = fof xs ∧ J ys W') ∨ (∃ pre, (∃ k, k ≤ (xs.length + 6) / 7 ∧ pre = fofTo xs k) ∧ Jx pre W')) := by
  have HX := Lib.hid hx
  have HS := Lib.hid hs
  have HY := Lib.hid hY
  clear hx hs hY
  refine callsIn_of_wp Try.func90 rfl trivial ?_ rfl
  simp only [Try.ntmps90, List.size_toArray, List.length_cons, List.length_nil, Nat.reduceAdd, Nat.reduceSub, Array.replicate_succ, Array.replicate_zero, List.push_toArray, List.append_toArray, List.nil_append, List.cons_append]
  gi_wp2
  gi_loopw [3] (fun i wr => ∃ j : Nat, 7 * j < xs.length + 7 ∧ i = .int .i64 ((7 * j : Nat) : Int) ∧ J (fofTo xs j) wr ∧ KB n₀ Bs W wr)
    (fun i _ => xs.length + 7 - (intOf i).toNat)
  case atStart => exact ⟨0, by omega, rfl, h0, KB.refl _ _ _⟩
  case round =>
    obtain ⟨j, hj, rfl, hJs, hnx⟩ := hrel
    have hBw : wr.cell? ⟨Bs, 0, none⟩ = some (.slice A xs.length c) := (World.cell?_of_block (a := ⟨Bs, 0, none⟩) hnx.2).trans hBs
    have HN := Lib.hid hnx
    clear hnx
    by_cases hlt : 7 * j < xs.length
    · obtain ⟨ad, rfl, hb, _⟩ := HS.out (7 * j) hlt
      obtain ⟨fn, tmps, assign, body, hy, hR⟩ := HY.out _ (elm xs j) wr hJs (by rw [fofTo_length]; omega)
      have HR := Lib.hid hR
      have HJ := Lib.hid hJs
      clear hR hJs
      have HP := Lib.hid ((HS.out.below HN.out.1).part (7 * j) (min 7 (xs.length - 7 * j)) (by omega))
      have HV := Lib.hid (show num ((xs.drop (7 * j)).take (min 7 (xs.length - 7 * j))) = elm xs j from by
        by_cases h : 7 ≤ xs.length - 7 * j
        · rw [Nat.min_eq_left h]; rfl
        · rw [Nat.min_eq_right (by omega)]; exact elm_part xs j _ (by omega) (by omega))
      have HL := Lib.hid (show ((xs.drop (7 * j)).take (min 7 (xs.length - 7 * j))).length = min 7 (xs.length - 7 * j) from by simp)
      have HZ := Lib.hid (show ∀ x ∈ (xs.drop (7 * j)).take (min 7 (xs.length - 7 * j)), 0 ≤ x ∧ x < 256 from fun x h => HX.out x (List.mem_of_mem_drop (List.mem_of_mem_take h)))
      by_cases h7 : 7 * j + 7 ≤ xs.length
      all_goals
        gi_wp2_with fail
        refine ⟨trivial, ?_⟩
        refine (callsIn_wide.2 (number_len _ _ _ _ _ (by rw [HL.out]; omega) HV.out HZ.out (by omega) _ _ HP.out)).mono ?_
        rintro e w' ⟨rfl, rfl⟩
        gi_wp2
        refine HR.out.mono ?_
        rintro e W3 (⟨rfl, hJ3, hk3⟩ | ⟨rfl, hJx3⟩)
        · gi_wp2
          go_roundw
          case rel => exact ⟨j + 1, by omega, by go_num, by rw [fofTo_succ]; exact hJ3, HN.out.trans hk3⟩
          case measure => simp [intOf]; omega
        · gi_wp2
          refine bodyPost_ret (results_none rfl _ _ _) rfl ?_
          exact ⟨⟨_, rfl⟩, .inr ⟨_, ⟨j + 1, by omega, (fofTo_succ _ _).symm⟩, hJx3⟩⟩
    · have hm : j = (xs.length + 6) / 7 := by omega
      have HM := Lib.hid hm
      clear hm
      gi_wp2
      go_end0
      exact ⟨⟨_, rfl⟩, .inl ⟨_, by rw [HM.out, fof_eq], hJs⟩⟩

theorem each_stops (n : Nat) (hn : 1 ≤ n) (Bs n₀ : Nat) (A : Option Addr) (c : Nat) (xs : List Int) (hx : ∀ x ∈ xs, 0 ≤ x ∧ x < 256) (hl : xs.length ≤ 70368744177664) (hcap : xs.length ≤ c) (w : World) (hBs : Bs < w.heap.size) (hn₀ : n₀ ≤ w.heap.size)
    (hc : w.cell? ⟨Bs, 0, none⟩ = some (.slice A xs.length c)) (hs : SI w n₀ .u8 A xs) :
    SeqStopsK Fence.wide n Try.prog 90 #[.pointer (some ⟨Bs, 0, none⟩)] (fun x : Int => #[Value.int .u64 x]) (KB n₀ Bs) (fun ys => ys = fof xs) (fun pre => ∃ k, k ≤ (xs.length + 6) / 7 ∧ pre = fofTo xs k) ((xs.length + 6) / 7) w := fun l J Jx W hW _ _ hY h0 =>
  each_in n hn l Bs n₀ A c xs hx hl hcap J Jx hY W ((hW.cell (p := ⟨Bs, 0, none⟩) hBs).trans hc) (hs.below (hW.mono hn₀)) h0

set_option maxHeartbeats 1000000 in
theorem elements_in (n : Nat) (A : Option Addr) (m c : Nat) (w : World) :
    CallsIn Fence.wide n Try.prog 80 #[.slice A m c] w fun e w' => e = .returned (.func (.func 90) #[] #[.pointer (some ⟨w.heap.size, 0, none⟩)]) ∧ w' = w.alloc (.cells #[.slice A m c] 22) := by
  refine callsIn_of_wp Try.func80 rfl trivial ?_ rfl
  simp only [Try.ntmps80, List.size_toArray, List.length_cons, List.length_nil, Nat.reduceAdd, Nat.reduceSub, Array.replicate_succ, Array.replicate_zero, List.push_toArray, List.append_toArray, List.nil_append, List.cons_append]
  gi_wp2
  go_ret
  exact ⟨rfl, rfl⟩

set_option maxRecDepth 100000 in
set_option maxHeartbeats 2000000 in
theorem Of_any (A : Option Addr) (c : Nat) (xs : List Int) (hx : ∀ x ∈ xs, 0 ≤ x ∧ x < 256) (hl : xs.length ≤ 70368744177664) (hcap : xs.length ≤ c) (w : World) (hs : SI w w.heap.size .u8 A xs) :
    Calls Try.prog 74 #[.slice A xs.length c] w fun e w' => ∃ v, e = .returned v ∧ OwnU w' w.heap.size v (fof xs) ∧ Below w.heap.size w w' := by
  have HX := Lib.hid hx
  have HS := Lib.hid hs
  clear hx hs
  obtain ⟨i0, hi, hz0, hz1, hz2⟩ := info_parts Try.info23
  have HI := Lib.hid (And.intro hi (And.intro hz0 (And.intro hz1 hz2)))
  clear hi hz0 hz1 hz2
  refine (callsIn_wide (n := 5)).1 ?_
  refine callsIn_of_wp_marks Try.func74 rfl trivial ?_ rfl
  simp only [Try.ntmps74, List.size_toArray, List.length_cons, List.length_nil, Nat.reduceAdd, Nat.reduceSub, Array.replicate_succ, Array.replicate_zero, List.push_toArray, List.append_toArray, List.nil_append, List.cons_append]
  gi_wp2_with (first
    | (gi_at_make; refine wpListIn_make_own _ rfl _ _ 68 rfl w.heap.size 23 i0 (.int .u64 0) 1 Try.underlying68 HI.out.1 HI.out.2.1 HI.out.2.2.1 _ _ _ ((xs.length + 6) / 7) rfl rfl (by omega) (by rw [HI.out.2.2.2]; omega) (by unfold maxLen; omega) (Nat.le_refl _) ?_; intro w1 hown1 hgrow1; have HO1 := Lib.hid hown1; have HG1 := Lib.hid hgrow1; clear hown1 hgrow1)
    | (refine ⟨trivial, ?_⟩; gi_at_call 80; refine (elements_in _ _ _ _ _).mono ?_; rintro e w' ⟨rfl, rfl⟩))
  have hB1 : Below w.heap.size w w1 := (Below.refl _ _).grown HG1.out (Nat.le_refl _) (by simp)
  have hz1 := hB1.size
  have hown1 := HO1.out
  obtain ⟨W1, hW1⟩ : ∃ W1, w1.alloc (.cells #[.slice (some ⟨w.heap.size, 0, none⟩) 0 ((xs.length + 6) / 7)] 68) = W1 := ⟨_, rfl⟩
  have bO : Boxed W1 w1.heap.size 68 (.slice (some ⟨w.heap.size, 0, none⟩) 0 ((xs.length + 6) / 7)) := by rw [← hW1]; exact Boxed.new w1 68 _
  have hrow1 : W1.ownsRow w.heap.size 23 1 (.slice (some ⟨w.heap.size, 0, none⟩) 0 ((xs.length + 6) / 7)) 0 [] := by rw [← hW1]; exact hown1.alloc _
  have hs1 : W1.heap.size = w1.heap.size + 1 := by rw [← hW1]; simp
  have hB2 : Below w.heap.size w W1 := by rw [← hW1]; exact hB1.alloc hz1 _
  rw [hW1]
  have bN := Boxed.new W1 22 (.slice A xs.length c)
  have hB0 : Below w.heap.size w (W1.alloc (.cells #[.slice A xs.length c] 22)) := hB2.alloc hB2.size _
  rw [← hs1]
  have hlt1 : w1.heap.size < W1.heap.size := by omega
  clear hs1
  refine wpIn_rangeFunc_ownG rfl (by omega) (gf := 90) (lb := #[.pointer (some ⟨W1.heap.size, 0, none⟩)]) rfl trivial (enters_of Try.func90 (by kernel_rfl) rfl)
    (each_stops _ (by omega) W1.heap.size w.heap.size A c xs HX.out hl hcap _ (by simp) (by simp; omega) bN.cell (HS.out.below hB0)) KB.trans (KB.put (by simp; omega) (by simp)) (Below.refl _ _) (fun _ => rfl)
    (fun pre W => (∃ v, Boxed W w1.heap.size 68 v ∧ W.ownsRow w.heap.size 23 1 v pre.length (pre.map (Value.int .u64)) ∧ True) ∧ (Boxed W W1.heap.size 22 (.slice A xs.length c) ∧ Below w.heap.size w W))
    (fun _ _ _ => False)
    (OwnFrom.and (Own.from (holdsRow_own w.heap.size w1.heap.size 68 23 1 (fun pre : List Int => pre.length) (fun pre : List Int => pre.map (Value.int .u64)) (fun _ _ => True)) _) (OwnFrom.and (Own.from (boxed_own _ _ _) _) (ownFrom_below (Nat.le_refl _) (by simp; omega))))
    (fun _ _ _ _ _ hs _ _ => hs)
    ⟨⟨_, bO.alloc _, hrow1.alloc _, trivial⟩, bN, hB0⟩
    (fun x => { tmps := #[.slice A xs.length c, undef, .slice none 0 0, .pointer (some ⟨w1.heap.size, 0, none⟩), .int .u64 x, .slice A xs.length c,
          .int .i64 xs.length, .int .i64 (xs.length + 7), .int .i64 (xs.length + 7 - 1), .int .i64 ((xs.length + 7 - 1) / 7),
          .slice (some ⟨w.heap.size, 0, none⟩) 0 ((xs.length + 6) / 7), .slice A xs.length c,
          .func (.func 90) #[] #[.pointer (some ⟨W1.heap.size, 0, none⟩)], .int .u64 x, undef, undef, undef, undef, undef], defers := [] }) ?assign ?body ?done ?stop
  case assign =>
    intro l x W K hK
    gi_wp2
    exact hK
  case body =>
    rintro l pre x W ⟨⟨v, hv, hrow, _⟩, hbs, hB⟩ hlt
    have hc := hv.cell
    have HR := Lib.hid hrow
    have HB := Lib.hid hB
    clear hrow hB
    gi_wp2_with (gi_at_builtin; refine wpListIn_append_own _ rfl _ _ 68 rfl w.heap.size 23 i0 (.int .u64 0) 1 8 Try.underlying68 HI.out.1 HI.out.2.1 HI.out.2.2.1 HI.out.2.2.2 rfl (by decide) _ _ _ rfl (HR.out.alloc _) ⟨W.heap.size, 0, none⟩ 1 1 [.int .u64 x] rfl rfl (cell_one_new _ _ _) (by simp [Value.oneCell']) (by unfold maxLen; omega) (by omega) (by have := HB.out.size; simp; omega) ?_; intro v' w1' hown' hgrow _; obtain ⟨g', cap', rfl⟩ := ownsRow_succ hown'; obtain ⟨hv1, hv2, hr2, hk2, hb2⟩ := hv.appended (by decide) HR.out HB.out.size (by omega) hown' hgrow; have hc1 := hv1.cell; have hf1 := hv1.frozen; have hbs' := ((hbs.alloc _).kept hgrow (hbs.not_row (by decide) HR.out)).other (show W1.heap.size ≠ w1.heap.size by omega) (.slice (some ⟨g', 0, none⟩) (pre.length + 1) cap'))
    exact ⟨hk2.from _, ⟨hb2, hbs'.trans hbs.symm⟩, ⟨_, hv2, by simpa using hr2, trivial⟩, hbs', HB.out.trans hb2⟩
  case done =>
    rintro D ys W hD rfl ⟨⟨v, hv, hrow, _⟩, _, hB⟩ hK
    have hc := hv.cell
    gi_wp2
    refine ⟨by simp, .inl ⟨_, _, rfl, run_takeDeferred hK, ?_⟩⟩
    exact ⟨_, results_tmp rfl _ _ _, v, rfl, ownsRow_putObj hrow _ hK rfl, hB.trans (belowK_b (w := w) (Nat.le_refl _) W D _ _ (by simp at hD; omega) hK rfl rfl)⟩
  case stop =>
    rintro D c pre W _ _ h _
    exact h.elim
end Go.Proofs.Ytippfhlljlfcnaa

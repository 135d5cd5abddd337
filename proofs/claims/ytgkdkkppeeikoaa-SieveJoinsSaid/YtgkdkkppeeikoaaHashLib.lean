/- Several texts of one kind, one behind the other: HashA, HashB, HashC, HashD. -/
import Derived.Test.YtgkdkkppeeikoaaFieldLib
import Derived.Test.YtgkdkkppeeikoaaPlain
import Derived.LoopN
import Derived.BigQuiet
import Derived.Deep.RegionHeld3
import Derived.Deep.DrawnRows
import Derived.RangeFuncNested
import Derived.RangeFuncBound
import Derived.RangeFuncCalls
import Derived.RangeFuncLeaves
import Derived.RangeFuncBox
import Derived.Shelf.Abstract
import Derived.Shelf.RegionOpen
import Derived.TacticsInMore
import Derived.LoopNIn
import Derived.LoopIn
import Derived.RegionIn
/- Contracts of the hash: rounds and mixing, of the program and of the plain answer. -/
namespace Go.Proofs.Ytgkdkkppeeikoaa
open Go.ChangeShapes Go.WideShapes Go.ChangeAt Go.RowKit Gs
set_option linter.unusedVariables false
attribute [local go_sem ↓] Go.wp_at_zero Go.wp_at_succ

theorem constant_any (r i : Nat) (hr : r < 8) (hi : i < 3) (w : World) :
    Calls Try.prog 50 #[.int .i64 r, .int .i64 i] w fun e w' => e = .returned (.int .u64 (kc r i)) ∧ w = w' := by
  have hk := kc_bound r i hr hi
  have e0 : kc r i = (3 * (r : Int) + i + 1) * (3 * (r : Int) + i + 1) * (3 * (r : Int) + i + 1) + 7 := by unfold kc; push_cast; rfl
  have h0 : (3 : Int) * r + i + 1 ≤ 24 := by omega
  have h1 : (3 * (r : Int) + i + 1) * (3 * (r : Int) + i + 1) ≤ 24 * 24 := Int.mul_le_mul h0 h0 (by omega) (by omega)
  have h2 : 0 ≤ (3 * (r : Int) + i + 1) * (3 * (r : Int) + i + 1) := Int.mul_nonneg (by omega) (by omega)
  have E0 := Lib.hid e0
  have HK := Lib.hid hk
  have H1 := Lib.hid (And.intro h2 h1)
  clear e0 hk h1 h2
  go_enter Try.func50, Try.ntmps50
  go_wp2
  go_ret
  refine ⟨ret_u64 ?_, rfl⟩
  have hk := HK.out
  have h1 := H1.out
  rw [E0.out] at hk ⊢
  have h3 : 0 ≤ (3 * (r : Int) + i + 1) * (3 * (r : Int) + i + 1) * (3 * (r : Int) + i + 1) := Int.mul_nonneg h1.1 (by omega)
  rw [IntWalk.u64_in ((3 * (r : Int) + i + 1) * (3 * (r : Int) + i + 1)) (by omega), IntWalk.u64_in ((3 * (r : Int) + i + 1) * (3 * (r : Int) + i + 1) * (3 * (r : Int) + i + 1)) (by omega), IntWalk.u64_in _ (by omega)]

theorem each_r1 (p : Value) (y0 y1 y2 : Int) (a b c : Int) (w : World)
   (h0 : ∀ W, Below w.heap.size w W → Calls Try.prog 48 #[.int .i64 0, .int .u64 a, p] W fun e w' => e = .returned (.int .u64 y0) ∧ W = w')
   (h1 : ∀ W, Below w.heap.size w W → Calls Try.prog 48 #[.int .i64 1, .int .u64 b, p] W fun e w' => e = .returned (.int .u64 y1) ∧ W = w')
   (h2 : ∀ W, Below w.heap.size w W → Calls Try.prog 48 #[.int .i64 2, .int .u64 c, p] W fun e w' => e = .returned (.int .u64 y2) ∧ W = w') :
    Calls Try.prog 44 #[.agg #[.int .u64 a, .int .u64 b, .int .u64 c], .func (.func 48) #[] #[p]] w fun e w' => e = .returned (.agg #[.int .u64 y0, .int .u64 y1, .int .u64 y2]) ∧ Below w.heap.size w w' := by
  have H0 := Lib.hid h0
  have H1 := Lib.hid h1
  have H2 := Lib.hid h2
  clear h0 h1 h2
  have i0 : ∀ w x0 x1 x2, (Instr.index 66 (.agg #[x0, x1, x2]) (.int .i64 0)).run Try.prog w = .ok x0 w := fun _ _ _ _ => by kernel_rfl
  have i1 : ∀ w x0 x1 x2, (Instr.index 66 (.agg #[x0, x1, x2]) (.int .i64 1)).run Try.prog w = .ok x1 w := fun _ _ _ _ => by kernel_rfl
  have i2 : ∀ w x0 x1 x2, (Instr.index 66 (.agg #[x0, x1, x2]) (.int .i64 2)).run Try.prog w = .ok x2 w := fun _ _ _ _ => by kernel_rfl
  go_enter Try.func44, Try.ntmps44
  go_wp2
  refine wp_loop_rounds 4 ?_
  rw [rounds_succ]
  go_wp2_with fail
  refine Calls.mono (H0.out _ ?_) ?_
  · (repeat (first | exact Below.refl _ _ | (refine Below.setCell ?_ (by simp) _) | (refine Below.alloc ?_ (by simp) _)))
  rintro e w' ⟨rfl, rfl⟩
  go_wp2_with fail
  rw [rounds_succ]
  go_wp2_with fail
  refine Calls.mono (H1.out _ ?_) ?_
  · (repeat (first | exact Below.refl _ _ | (refine Below.setCell ?_ (by simp) _) | (refine Below.alloc ?_ (by simp) _)))
  rintro e w' ⟨rfl, rfl⟩
  go_wp2_with fail
  rw [rounds_succ]
  go_wp2_with fail
  refine Calls.mono (H2.out _ ?_) ?_
  · (repeat (first | exact Below.refl _ _ | (refine Below.setCell ?_ (by simp) _) | (refine Below.alloc ?_ (by simp) _)))
  rintro e w' ⟨rfl, rfl⟩
  go_wp2_with fail
  rw [rounds_succ]
  go_wp2_with fail
  exact bodyPost_ret (v := .agg #[.int .u64 y0, .int .u64 y1, .int .u64 y2]) (by simp [results, Try.results44, go_sem]) rfl ⟨rfl, by (repeat (first | exact Below.refl _ _ | (refine Below.setCell ?_ (by simp) _) | (refine Below.alloc ?_ (by simp) _)))⟩

theorem each_r2 (p : Value) (y0 y1 y2 : Int) (a b c : Int) (w : World)
   (h0 : ∀ W, Below w.heap.size w W → Calls Try.prog 51 #[.int .i64 0, .int .u64 a, p] W fun e w' => e = .returned (.int .u64 y0) ∧ W = w')
   (h1 : ∀ W, Below w.heap.size w W → Calls Try.prog 51 #[.int .i64 1, .int .u64 b, p] W fun e w' => e = .returned (.int .u64 y1) ∧ W = w')
   (h2 : ∀ W, Below w.heap.size w W → Calls Try.prog 51 #[.int .i64 2, .int .u64 c, p] W fun e w' => e = .returned (.int .u64 y2) ∧ W = w') :
    Calls Try.prog 44 #[.agg #[.int .u64 a, .int .u64 b, .int .u64 c], .func (.func 51) #[] #[p]] w fun e w' => e = .returned (.agg #[.int .u64 y0, .int .u64 y1, .int .u64 y2]) ∧ Below w.heap.size w w' := by
  have H0 := Lib.hid h0
  have H1 := Lib.hid h1
  have H2 := Lib.hid h2
  clear h0 h1 h2
  have i0 : ∀ w x0 x1 x2, (Instr.index 66 (.agg #[x0, x1, x2]) (.int .i64 0)).run Try.prog w = .ok x0 w := fun _ _ _ _ => by kernel_rfl
  have i1 : ∀ w x0 x1 x2, (Instr.index 66 (.agg #[x0, x1, x2]) (.int .i64 1)).run Try.prog w = .ok x1 w := fun _ _ _ _ => by kernel_rfl
  have i2 : ∀ w x0 x1 x2, (Instr.index 66 (.agg #[x0, x1, x2]) (.int .i64 2)).run Try.prog w = .ok x2 w := fun _ _ _ _ => by kernel_rfl
  go_enter Try.func44, Try.ntmps44
  go_wp2
  refine wp_loop_rounds 4 ?_
  rw [rounds_succ]
  go_wp2_with fail
  refine Calls.mono (H0.out _ ?_) ?_
  · (repeat (first | exact Below.refl _ _ | (refine Below.setCell ?_ (by simp) _) | (refine Below.alloc ?_ (by simp) _)))
  rintro e w' ⟨rfl, rfl⟩
  go_wp2_with fail
  rw [rounds_succ]
  go_wp2_with fail
  refine Calls.mono (H1.out _ ?_) ?_
  · (repeat (first | exact Below.refl _ _ | (refine Below.setCell ?_ (by simp) _) | (refine Below.alloc ?_ (by simp) _)))
  rintro e w' ⟨rfl, rfl⟩
  go_wp2_with fail
  rw [rounds_succ]
  go_wp2_with fail
  refine Calls.mono (H2.out _ ?_) ?_
  · (repeat (first | exact Below.refl _ _ | (refine Below.setCell ?_ (by simp) _) | (refine Below.alloc ?_ (by simp) _)))
  rintro e w' ⟨rfl, rfl⟩
  go_wp2_with fail
  rw [rounds_succ]
  go_wp2_with fail
  exact bodyPost_ret (v := .agg #[.int .u64 y0, .int .u64 y1, .int .u64 y2]) (by simp [results, Try.results44, go_sem]) rfl ⟨rfl, by (repeat (first | exact Below.refl _ _ | (refine Below.setCell ?_ (by simp) _) | (refine Below.alloc ?_ (by simp) _)))⟩

theorem each_s1 (p : Value) (y0 y1 y2 : Int) (a b c : Int) (w : World)
   (h0 : ∀ W, Below w.heap.size w W → Calls Try.prog 45 #[.int .i64 0, .int .u64 a, p] W fun e w' => e = .returned (.int .u64 y0) ∧ W = w')
   (h1 : ∀ W, Below w.heap.size w W → Calls Try.prog 45 #[.int .i64 1, .int .u64 b, p] W fun e w' => e = .returned (.int .u64 y1) ∧ W = w')
   (h2 : ∀ W, Below w.heap.size w W → Calls Try.prog 45 #[.int .i64 2, .int .u64 c, p] W fun e w' => e = .returned (.int .u64 y2) ∧ W = w') :
    Calls Try.prog 44 #[.agg #[.int .u64 a, .int .u64 b, .int .u64 c], .func (.func 45) #[] #[p]] w fun e w' => e = .returned (.agg #[.int .u64 y0, .int .u64 y1, .int .u64 y2]) ∧ Below w.heap.size w w' := by
  have H0 := Lib.hid h0
  have H1 := Lib.hid h1
  have H2 := Lib.hid h2
  clear h0 h1 h2
  have i0 : ∀ w x0 x1 x2, (Instr.index 66 (.agg #[x0, x1, x2]) (.int .i64 0)).run Try.prog w = .ok x0 w := fun _ _ _ _ => by kernel_rfl
  have i1 : ∀ w x0 x1 x2, (Instr.index 66 (.agg #[x0, x1, x2]) (.int .i64 1)).run Try.prog w = .ok x1 w := fun _ _ _ _ => by kernel_rfl
  have i2 : ∀ w x0 x1 x2, (Instr.index 66 (.agg #[x0, x1, x2]) (.int .i64 2)).run Try.prog w = .ok x2 w := fun _ _ _ _ => by kernel_rfl
  go_enter Try.func44, Try.ntmps44
  go_wp2
  refine wp_loop_rounds 4 ?_
  rw [rounds_succ]
  go_wp2_with fail
  refine Calls.mono (H0.out _ ?_) ?_
  · (repeat (first | exact Below.refl _ _ | (refine Below.setCell ?_ (by simp) _) | (refine Below.alloc ?_ (by simp) _)))
  rintro e w' ⟨rfl, rfl⟩
  go_wp2_with fail
  rw [rounds_succ]
  go_wp2_with fail
  refine Calls.mono (H1.out _ ?_) ?_
  · (repeat (first | exact Below.refl _ _ | (refine Below.setCell ?_ (by simp) _) | (refine Below.alloc ?_ (by simp) _)))
  rintro e w' ⟨rfl, rfl⟩
  go_wp2_with fail
  rw [rounds_succ]
  go_wp2_with fail
  refine Calls.mono (H2.out _ ?_) ?_
  · (repeat (first | exact Below.refl _ _ | (refine Below.setCell ?_ (by simp) _) | (refine Below.alloc ?_ (by simp) _)))
  rintro e w' ⟨rfl, rfl⟩
  go_wp2_with fail
  rw [rounds_succ]
  go_wp2_with fail
  exact bodyPost_ret (v := .agg #[.int .u64 y0, .int .u64 y1, .int .u64 y2]) (by simp [results, Try.results44, go_sem]) rfl ⟨rfl, by (repeat (first | exact Below.refl _ _ | (refine Below.setCell ?_ (by simp) _) | (refine Below.alloc ?_ (by simp) _)))⟩

theorem round1_any (r i : Nat) (x : Int) (hr : r < 8) (hi : i < 3) [IsU x] (ad : Addr) (w : World) (hc : w.cell? ad = some (.int .i64 r)) :
    Calls Try.prog 48 #[.int .i64 i, .int .u64 x, .pointer (some ad)] w fun e w' => e = .returned (.int .u64 (sb r i x)) ∧ w = w' := by
  have hk := kc_bound r i hr hi
  have hp := Pow_any (fadd x (kc r i)) 17 IsU.lo IsU.hi (by omega) (by omega)
  rw [show (17 : Int).toNat = 17 from rfl] at hp
  have HP := Lib.hid hp
  clear hp
  haveI : IsU (kc r i) := ⟨hk.1, by omega⟩
  go_enter Try.func48, Try.ntmps48
  go_wp2_with fail
  refine (constant_any r i hr hi _).mono ?_; rintro e w' ⟨rfl, rfl⟩
  go_wp2_with fail
  refine (Add_i _ _ _).mono ?_; rintro e w' ⟨rfl, rfl⟩
  go_wp2_with fail
  refine (HP.out _).mono ?_; rintro e w' ⟨rfl, rfl⟩
  go_wp2_with fail
  go_ret
  exact ⟨rfl, rfl⟩

theorem round2_any (i x y : Int) [IsU x] [IsU y] (ad : Addr) (w : World) (hc : w.cell? ad = some (.int .u64 y)) :
    Calls Try.prog 51 #[.int .i64 i, .int .u64 x, .pointer (some ad)] w fun e w' => e = .returned (.int .u64 (fadd x y)) ∧ w = w' := by
  go_enter Try.func51, Try.ntmps51
  go_wp2_with fail
  refine (Add_i _ _ _).mono ?_; rintro e w' ⟨rfl, rfl⟩
  go_wp2_with fail
  go_ret
  exact ⟨rfl, rfl⟩

instance (r i : Nat) (x : Int) : IsU (sb r i x) := IsU.of (fpow_el _ _).u64
instance (r : Nat) (a b c : Int) : IsU (rall r a b c) := IsU.of (fadd_el _ _).u64

set_option maxHeartbeats 1000000 in
theorem round_any (r : Nat) (hr : r < 8) (a b c : Int) [IsU a] [IsU b] [IsU c] (w : World) :
    Calls Try.prog 41 #[.int .i64 r, .agg #[.int .u64 a, .int .u64 b, .int .u64 c]] w fun e w' =>
      e = .returned (.agg #[.int .u64 (rnd r (a, b, c)).1, .int .u64 (rnd r (a, b, c)).2.1, .int .u64 (rnd r (a, b, c)).2.2]) ∧ Below w.heap.size w w' := by
  go_enter Try.func41, Try.ntmps41
  go_wp2_with fail
  refine Calls.mono (each_r1 _ (sb r 0 a) (sb r 1 b) (sb r 2 c) a b c _ (fun W hW => round1_any r 0 a hr (by omega) ⟨w.heap.size, 0, none⟩ W ?_) (fun W hW => round1_any r 1 b hr (by omega) ⟨w.heap.size, 0, none⟩ W ?_) (fun W hW => round1_any r 2 c hr (by omega) ⟨w.heap.size, 0, none⟩ W ?_)) ?_
  · exact (hW.cell (by first | (simp; done) | (simp; omega))).trans (by simp [go_sem])
  · exact (hW.cell (by first | (simp; done) | (simp; omega))).trans (by simp [go_sem])
  · exact (hW.cell (by first | (simp; done) | (simp; omega))).trans (by simp [go_sem])
  rintro e w1 ⟨rfl, hb⟩
  have HB := Lib.hid hb
  obtain ⟨hc, hf⟩ := bcell hb
  have hz := hb.size
  simp at hz
  clear hb
  go_wp2_with fail
  refine wp_named (fun w2 => Blk w2 (w.heap.size + 1) 66 #[.int .u64 (sb r 0 a), .int .u64 (sb r 1 b), .int .u64 (sb r 2 c)] ∧ Below w.heap.size w w2 ∧ Blk w2 (w.heap.size + 1 + 1) 66 #[.int .u64 0, .int .u64 0, .int .u64 0]) ?_ ?_
  · have hb := HB.out
    refine ⟨Blk.set3 (Blk.below ((Blk.new_at _ _ _ (by first | (simp; done) | (simp; omega))).alloc _) hb (by first | (simp; done) | (simp; omega))), ?_, ?_⟩
    · refine Below.setCell (Below.setCell (Below.setCell (Below.trans ?_ (hb.mono (by first | (simp; done) | (simp; omega)))) (by first | (simp; done) | (simp; omega)) _) (by first | (simp; done) | (simp; omega)) _) (by first | (simp; done) | (simp; omega)) _
      repeat (first | exact Below.refl _ _ | (refine Below.alloc ?_ (by first | (simp; done) | (simp; omega)) _))
    · refine Blk.other (Blk.other (Blk.other (Blk.below (Blk.new_at _ _ _ (by first | (simp; done) | (simp; omega))) hb (by first | (simp; done) | (simp; omega))) (by first | (simp; done) | (simp; omega)) _) (by first | (simp; done) | (simp; omega)) _) (by first | (simp; done) | (simp; omega)) _
  clear hc hf hz HB
  rintro w2 ⟨hB1, hb2, hB2⟩
  obtain ⟨⟨c0, c1, c2⟩, f0, f1, f2⟩ := hB1.facts3
  have l2 := hB2.lt
  have HB1 := Lib.hid hB1
  have HB2 := Lib.hid hB2
  have HBe := Lib.hid hb2
  clear hB1 hB2 hb2
  go_region_held3 (fun w' => w'.cell? ⟨w.heap.size + 1, 0, none⟩ = some (.int .u64 (sb r 0 a)) ∧ w'.cell? ⟨w.heap.size + 1, 1, none⟩ = some (.int .u64 (sb r 1 b)) ∧ w'.cell? ⟨w.heap.size + 1, 2, none⟩ = some (.int .u64 (sb r 2 c))) (go_keep)
    ((go_at_call 46; refine (Add_i _ _ _).mono ?_; rintro e w' ⟨rfl, rfl⟩))
  all_goals
    clear c0 c1 c2 f0 f1 f2
    obtain ⟨⟨c0, c1, c2⟩, f0, f1, f2⟩ := ((HB1.out.alloc (.cells #[.int .u64 (fadd (fadd (sb r 0 a) (sb r 1 b)) (sb r 2 c))] 54)).drew).facts3
    go_wp2_with fail
    refine Calls.mono (each_r2 _ (fadd (sb r 0 a) (rall r a b c)) (fadd (sb r 1 b) (rall r a b c)) (fadd (sb r 2 c) (rall r a b c)) _ _ _ _ (fun W hW => round2_any 0 (sb r 0 a) (rall r a b c) ⟨w2.heap.size, 0, none⟩ W ?_) (fun W hW => round2_any 1 (sb r 1 b) (rall r a b c) ⟨w2.heap.size, 0, none⟩ W ?_) (fun W hW => round2_any 2 (sb r 2 c) (rall r a b c) ⟨w2.heap.size, 0, none⟩ W ?_)) ?_
    iterate 3 exact (hW.cell (by first | (simp; done) | (simp; omega))).trans (by simp [go_sem, rall])
    rintro e w3 ⟨rfl, hb3⟩
    have B2 := (HB2.out.alloc (.cells #[.int .u64 (fadd (fadd (sb r 0 a) (sb r 1 b)) (sb r 2 c))] 54)).drew.below hb3 (by first | (simp; done) | (simp; omega))
    clear c0 c1 c2 f0 f1 f2
    obtain ⟨⟨c0, c1, c2⟩, f0, f1, f2⟩ := B2.facts3
    have HB3 := Lib.hid hb3
    clear hb3 B2
    go_wp2_with fail
    refine bodyPost_ret (v := .agg #[.int .u64 (fadd (sb r 0 a) (rall r a b c)), .int .u64 (fadd (sb r 1 b) (rall r a b c)), .int .u64 (fadd (sb r 2 c) (rall r a b c))]) (by simp [results, Try.results41, go_sem, c0, c1, c2]) rfl ⟨rfl, ?_⟩
    have hz2 := HBe.out.size
    refine Below.setCell (Below.setCell (Below.setCell (Below.trans (Below.drew (Below.alloc HBe.out hz2 _)) (HB3.out.mono (by first | (simp; done) | (simp; omega)))) (by first | (simp; done) | (simp; omega)) _) (by first | (simp; done) | (simp; omega)) _) (by first | (simp; done) | (simp; omega)) _

set_option maxHeartbeats 1000000 in
theorem Mix_any (a b c : Int) [IsU a] [IsU b] [IsU c] (w : World) :
    Calls Try.prog 36 #[.agg #[.int .u64 a, .int .u64 b, .int .u64 c]] w fun e w' =>
      e = .returned (.agg #[.int .u64 (hmix (a, b, c)).1, .int .u64 (hmix (a, b, c)).2.1, .int .u64 (hmix (a, b, c)).2.2]) ∧ Below w.heap.size w w' := by
  have HU := Lib.hid (mixTo_u (a, b, c) ⟨⟨IsU.lo, IsU.hi⟩, ⟨IsU.lo, IsU.hi⟩, ⟨IsU.lo, IsU.hi⟩⟩)
  go_enter Try.func36, Try.ntmps36
  go_wp2_with fail
  go_loopw [3, 4] (fun r i wr => ∃ k : Nat, k ≤ 8 ∧ i = .int .i64 k ∧ Blk wr w.heap.size 66 #[.int .u64 (mixTo (a, b, c) k).1, .int .u64 (mixTo (a, b, c) k).2.1, .int .u64 (mixTo (a, b, c) k).2.2] ∧ Blk wr (w.heap.size + 1) 66 #[.int .u64 0, .int .u64 0, .int .u64 0] ∧ Below w.heap.size w wr) (fun _ i _ => 8 - (intOf i).toNat)
  case atStart =>
    exact ⟨0, by omega, rfl, (Blk.new_at _ _ _ rfl).alloc _, Blk.new_at _ _ _ (by first | omega | (simp; done) | (simp; omega)), ((Below.refl _ _).alloc (Nat.le_refl _) _).alloc (by first | omega | (simp; done) | (simp; omega)) _⟩
  case round =>
    obtain ⟨k, hk, rfl, hB1, hB2, hb⟩ := hrel
    obtain ⟨⟨c0, c1, c2⟩, f0, f1, f2⟩ := hB1.facts3
    have H1 := Lib.hid hB1
    have H2 := Lib.hid hB2
    have HB := Lib.hid hb
    have hz := hB2.lt
    clear hB1 hB2 hb
    by_cases hlt : k < 8
    · haveI := IsU.of (HU.out k).1
      haveI := IsU.of (HU.out k).2.1
      haveI := IsU.of (HU.out k).2.2
      go_wp2_with fail
      refine Calls.mono (round_any k hlt _ _ _ _) ?_
      rintro e w1 ⟨rfl, hb⟩
      have B1 := H1.out.below hb (by first | omega | (simp; done) | (simp; omega))
      have B2 := H2.out.below hb (by first | omega | (simp; done) | (simp; omega))
      have HB1 := Lib.hid (HB.out.trans (hb.mono HB.out.size))
      clear hb c0 c1 c2 f0 f1 f2
      obtain ⟨⟨c0, c1, c2⟩, f0, f1, f2⟩ := B1.facts3
      have K1 := Lib.hid B1
      have K2 := Lib.hid B2
      clear B1 B2
      go_wp2_with fail
      go_roundw
      case rel => exact ⟨k + 1, by omega, by go_num, K1.out.set3, ((K2.out.other (by first | omega | (simp; done) | (simp; omega)) _).other (by first | omega | (simp; done) | (simp; omega)) _).other (by first | omega | (simp; done) | (simp; omega)) _, ((HB1.out.setCell (by first | omega | (simp; done) | (simp; omega)) _).setCell (by first | omega | (simp; done) | (simp; omega)) _).setCell (by first | omega | (simp; done) | (simp; omega)) _⟩
      case measure => simp [intOf]; omega
    · obtain rfl : k = 8 := by omega
      have g := H2.out.facts3
      obtain ⟨⟨d0, d1, d2⟩, g0, g1, g2⟩ := g
      go_wp2_with fail
      refine bodyPost_ret (v := .agg #[.int .u64 (mixTo (a, b, c) 8).1, .int .u64 (mixTo (a, b, c) 8).2.1, .int .u64 (mixTo (a, b, c) 8).2.2]) (by simp [results, Try.results36, go_sem, d0, d1, d2]) rfl ⟨rfl, ?_⟩
      exact ((HB.out.setCell (by first | omega | (simp; done) | (simp; omega)) _).setCell (by first | omega | (simp; done) | (simp; omega)) _).setCell (by first | omega | (simp; done) | (simp; omega)) _

theorem kc_ref (r i : Nat) (m : Int) (hm : m = ((3 * r + i + 1 : Nat) : Int)) (hr : r < 8) (hi : i < 3) : fadd (fpow m 3) 7 = kc r i := by
  subst hm
  have h := kc_bound r i hr hi
  have h2 : fadd (fpow ((3 * r + i + 1 : Nat) : Int) 3) 7 = kc r i % PP := by
    unfold fadd fpow kc
    rw [Int.emod_add_emod]
    congr 2
    rw [Int.pow_succ, Int.pow_succ, Int.pow_succ, Int.pow_zero, Int.one_mul]
  rw [h2]
  unfold PP
  omega

end Go.Proofs.Ytgkdkkppeeikoaa

/- Contracts of the hash: what is soaked up, chunk by chunk. -/
namespace Go.Proofs.Ytgkdkkppeeikoaa
open Go.ChangeShapes Go.WideShapes Go.ChangeAt Go.RowKit Go.Shelf Gs
set_option linter.unusedVariables false

theorem soak1_in (A : Option Addr) (c : Nat) (xs : List Int) (hx : ∀ x ∈ xs, 0 ≤ x ∧ x < 18446744073709551616) (hl : xs.length ≤ 9223372036854775807) (k : Nat) (hk : k < xs.length) (x : Int) [IsU x] (ad : Addr) (B : Nat) (w : World) (hc : w.cell? ad = some (.slice A xs.length c)) (hs : SI w B .u64 A xs) :
    Calls Try.prog 45 #[.int .i64 k, .int .u64 x, .pointer (some ad)] w fun e w' => e = .returned (.int .u64 (fadd x xs[k])) ∧ w = w' := by
  obtain ⟨a0, rfl, _, hcell⟩ := hs k hk
  rw [List.getElem?_eq_getElem hk] at hcell
  simp only [Option.getD_some] at hcell
  have hxk := hx _ (List.getElem_mem hk)
  haveI : IsU xs[k] := ⟨hxk.1, hxk.2⟩
  clear hs hx hxk
  go_enter Try.func45, Try.ntmps45
  go_wp2_with fail
  refine (Add_i _ _ _).mono ?_; rintro e w' ⟨rfl, rfl⟩
  go_wp2_with fail
  go_ret
  exact ⟨rfl, rfl⟩

theorem soak1_out (A : Option Addr) (n c : Nat) (k : Nat) (hk : n ≤ k) (hk1 : k < 3) (x : Int) (ad : Addr) (w : World) (hc : w.cell? ad = some (.slice A n c)) :
    Calls Try.prog 45 #[.int .i64 k, .int .u64 x, .pointer (some ad)] w fun e w' => e = .returned (.int .u64 x) ∧ w = w' := by
  go_enter Try.func45, Try.ntmps45
  go_wp2_with fail
  go_ret
  exact ⟨rfl, rfl⟩

set_option maxHeartbeats 1000000 in
theorem soak_any (a b c : Int) [IsU a] [IsU b] [IsU c] (A : Option Addr) (n cc : Nat) (xs : List Int) (hn : xs.length = n) (h2 : n ≤ 2) (hx : ∀ x ∈ xs, 0 ≤ x ∧ x < 18446744073709551616) (w : World) (hs : SI w w.heap.size .u64 A xs) :
    Calls Try.prog 39 #[.agg #[.int .u64 a, .int .u64 b, .int .u64 c], .slice A n cc] w fun e w' =>
      e = .returned (.agg #[.int .u64 (sk a xs[0]?), .int .u64 (sk b xs[1]?), .int .u64 c]) ∧ Below w.heap.size w w' := by
  subst hn
  have HS := Lib.hid hs
  have HX := Lib.hid hx
  clear hs hx
  have key : ∀ y0 y1 : Int, y0 = sk a xs[0]? → y1 = sk b xs[1]? → Calls Try.prog 39 #[.agg #[.int .u64 a, .int .u64 b, .int .u64 c], .slice A xs.length cc] w fun e w' =>
      e = .returned (.agg #[.int .u64 y0, .int .u64 y1, .int .u64 c]) ∧ Below w.heap.size w w' := by
    intro y0 y1 hy0 hy1
    have HY0 := Lib.hid hy0
    have HY1 := Lib.hid hy1
    clear hy0 hy1
    go_enter Try.func39, Try.ntmps39
    go_wp2_with fail
    refine Calls.mono (each_s1 _ y0 y1 c a b c _ (fun W hW => ?_) (fun W hW => ?_) (fun W hW => ?_)) ?_
    · have hcl : W.cell? ⟨w.heap.size + 1, 0, none⟩ = some (.slice A xs.length cc) := (hW.cell (by simp)).trans (by simp [go_sem])
      have hsi : SI W w.heap.size .u64 A xs := HS.out.below ((((Below.refl _ _).alloc (Nat.le_refl _) _).alloc (by simp) _).alloc (by simp; omega) _ |>.trans (hW.mono (by simp; omega)))
      rw [HY0.out]
      rcases Nat.lt_or_ge 0 xs.length with h | h
      · rw [List.getElem?_eq_getElem h]
        exact soak1_in A cc xs HX.out (by omega) 0 h a _ _ W hcl hsi
      · rw [List.getElem?_eq_none h]
        exact soak1_out A _ cc 0 h (by omega) a _ W hcl
    · have hcl : W.cell? ⟨w.heap.size + 1, 0, none⟩ = some (.slice A xs.length cc) := (hW.cell (by simp)).trans (by simp [go_sem])
      have hsi : SI W w.heap.size .u64 A xs := HS.out.below ((((Below.refl _ _).alloc (Nat.le_refl _) _).alloc (by simp) _).alloc (by simp; omega) _ |>.trans (hW.mono (by simp; omega)))
      rw [HY1.out]
      rcases Nat.lt_or_ge 1 xs.length with h | h
      · rw [List.getElem?_eq_getElem h]
        exact soak1_in A cc xs HX.out (by omega) 1 h b _ _ W hcl hsi
      · rw [List.getElem?_eq_none h]
        exact soak1_out A _ cc 1 h (by omega) b _ W hcl
    · have hcl : W.cell? ⟨w.heap.size + 1, 0, none⟩ = some (.slice A xs.length cc) := (hW.cell (by simp)).trans (by simp [go_sem])
      exact soak1_out A _ cc 2 h2 (by omega) c _ W hcl
    rintro e w1 ⟨rfl, hb⟩
    have B2 := Blk.below (g := w.heap.size + 1 + 1) (Blk.new_at _ _ _ (by simp)) hb (by simp)
    obtain ⟨⟨c0, c1, c2⟩, f0, f1, f2⟩ := B2.facts3
    have HB := Lib.hid hb
    clear hb B2
    go_wp2_with fail
    refine bodyPost_ret (v := .agg #[.int .u64 y0, .int .u64 y1, .int .u64 c]) (by simp [results, Try.results39, go_sem, c0, c1, c2]) rfl ⟨rfl, ?_⟩
    refine Below.setCell (Below.setCell (Below.setCell (Below.trans ?_ (HB.out.mono (by first | omega | (simp; done) | (simp; omega)))) (by first | omega | (simp; done) | (simp; omega)) _) (by first | omega | (simp; done) | (simp; omega)) _) (by first | omega | (simp; done) | (simp; omega)) _
    exact (((Below.refl _ _).alloc (Nat.le_refl _) _).alloc (by simp) _).alloc (by first | omega | (simp; done) | (simp; omega)) _
  exact key _ _ rfl rfl

/-- Chunk q of a slice of L elements. -/
def chunkV (a : Addr) (L q : Nat) : Value := .slice (some (a.add (2 * q))) (min 2 (L - 2 * q)) (min 2 (L - 2 * q))

set_option maxRecDepth 100000 in
set_option maxHeartbeats 1000000 in
theorem chunks_in (n : Nat) (hn : 1 ≤ n) (l Bs Bn n₀ : Nat) (A : Option Addr) (ad : Addr) (c L : Nat) (hA : 0 < L → A = some ad) (hl : L ≤ 70368744177664) (hcap : L ≤ c) (J Jx : List Nat → World → Prop)
    (hJd : ∀ pre W, J pre W → J pre W.drew)
    (hY : ∀ pre x W, J pre W → pre.length < (L + 1) / 2 → YieldAt Fence.wide (n - 1) Try.prog l #[chunkV ad L x] W fun e W' =>
      (e = .returned (.bool true) ∧ J (pre ++ [x]) W' ∧ KB n₀ Bs W W' ∧ KB n₀ Bn W W') ∨ (e = .returned (.bool false) ∧ Jx (pre ++ [x]) W'))
    (W : World) (hBs : W.cell? ⟨Bs, 0, none⟩ = some (.slice A L c)) (hBn : W.cell? ⟨Bn, 0, none⟩ = some (.int .i64 2)) (h0 : J [] W) :
    CallsIn Fence.wide n Try.prog 42 #[.func (.yield l) #[] #[], .pointer (some ⟨Bs, 0, none⟩), .pointer (some ⟨Bn, 0, none⟩)] W fun e W' => (∃ v, e = .returned v) ∧
      ((∃ ys, ys = List.range ((L + 1) / 2) ∧ J ys W') ∨ (∃ pre, (∃ k, k ≤ (L + 1) / 2 ∧ pre = List.range k) ∧ Jx pre W')) := by
  have HY := Lib.hid hY
  have HJ := Lib.hid hJd
  have HA := Lib.hid hA
  clear hY hJd hA
  refine callsIn_of_wp Try.func42 rfl trivial ?_ rfl
  simp only [Try.ntmps42, List.size_toArray, List.length_cons, List.length_nil, Nat.reduceAdd, Nat.reduceSub, Array.replicate_succ, Array.replicate_zero, List.push_toArray, List.append_toArray, List.nil_append, List.cons_append]
  gi_wp2
  gi_loopw [4] (fun i wr => ∃ j : Nat, 2 * j < L + 2 ∧ i = .int .i64 ((2 * j : Nat) : Int) ∧ J (List.range j) wr ∧ KB n₀ Bs W wr ∧ KB n₀ Bn W wr)
    (fun i _ => L + 2 - (intOf i).toNat)
  case atStart => exact ⟨0, by omega, rfl, h0, KB.refl _ _ _, KB.refl _ _ _⟩
  case round =>
    obtain ⟨j, hj, rfl, hJs, hnx, hnn⟩ := hrel
    have hBw : wr.cell? ⟨Bs, 0, none⟩ = some (.slice A L c) := (World.cell?_of_block (a := ⟨Bs, 0, none⟩) hnx.2).trans hBs
    have hBv : wr.cell? ⟨Bn, 0, none⟩ = some (.int .i64 2) := (World.cell?_of_block (a := ⟨Bn, 0, none⟩) hnn.2).trans hBn
    have HN := Lib.hid hnx
    have HN' := Lib.hid hnn
    clear hnx hnn
    by_cases hlt : 2 * j < L
    · obtain rfl := HA.out (by omega)
      by_cases h2 : 2 ≤ L - 2 * j
      · have hv : chunkV ad L j = .slice (some (ad.add (2 * j))) 2 2 := by
          unfold chunkV; rw [show min 2 (L - 2 * j) = 2 by omega]
        have hYj := HY.out _ j wr.drew (HJ.out _ _ hJs) (by simp; omega)
        rw [hv] at hYj
        obtain ⟨fn, tmps, assign, body, hy, hR⟩ := hYj
        have HR := Lib.hid hR
        have HJs := Lib.hid hJs
        clear hR hv hJs
        gi_wp2_with fail
        gi_region
        gi_wp2_with fail
        refine HR.out.mono ?_
        rintro e W3 (⟨rfl, hJ3, hk3, hk4⟩ | ⟨rfl, hJx3⟩)
        · have HJ3 := Lib.hid hJ3
          have HK3 := Lib.hid hk3
          have HK4 := Lib.hid hk4
          have hBv' : W3.cell? ⟨Bn, 0, none⟩ = some (.int .i64 2) := (World.cell?_of_block (a := ⟨Bn, 0, none⟩) hk4.2).trans hBv
          clear hJ3 hk3 hk4
          gi_wp2_with fail
          go_roundw
          case rel => exact ⟨j + 1, by omega, by go_num, by rw [List.range_succ]; exact HJ3.out, HN.out.trans (KB.trans ⟨(Below.refl _ _).drew, rfl⟩ HK3.out), HN'.out.trans (KB.trans ⟨(Below.refl _ _).drew, rfl⟩ HK4.out)⟩
          case measure => simp [intOf]; omega
        · have HJ3 := Lib.hid hJx3
          clear hJx3
          gi_wp2_with fail
          refine bodyPost_ret (results_none rfl _ _ _) rfl ?_
          exact ⟨⟨_, rfl⟩, .inr ⟨_, ⟨j + 1, by omega, (List.range_succ).symm⟩, HJ3.out⟩⟩
      · obtain rfl : L = 2 * j + 1 := by omega
        have hv : chunkV ad (2 * j + 1) j = .slice (some (ad.add (2 * j))) 1 1 := by
          unfold chunkV; rw [show min 2 (2 * j + 1 - 2 * j) = 1 by omega]
        have hYj := HY.out _ j wr.drew (HJ.out _ _ hJs) (by simp; omega)
        rw [hv] at hYj
        obtain ⟨fn, tmps, assign, body, hy, hR⟩ := hYj
        have HR := Lib.hid hR
        have HJs := Lib.hid hJs
        clear hR hv h2 hJs
        gi_wp2_with fail
        gi_region
        gi_wp2_with fail
        refine HR.out.mono ?_
        rintro e W3 (⟨rfl, hJ3, hk3, hk4⟩ | ⟨rfl, hJx3⟩)
        · have HJ3 := Lib.hid hJ3
          have HK3 := Lib.hid hk3
          have HK4 := Lib.hid hk4
          have hBv' : W3.cell? ⟨Bn, 0, none⟩ = some (.int .i64 2) := (World.cell?_of_block (a := ⟨Bn, 0, none⟩) hk4.2).trans hBv
          clear hJ3 hk3 hk4
          gi_wp2_with fail
          go_roundw
          case rel => exact ⟨j + 1, by omega, by go_num, by rw [List.range_succ]; exact HJ3.out, HN.out.trans (KB.trans ⟨(Below.refl _ _).drew, rfl⟩ HK3.out), HN'.out.trans (KB.trans ⟨(Below.refl _ _).drew, rfl⟩ HK4.out)⟩
          case measure => simp [intOf]; omega
        · have HJ3 := Lib.hid hJx3
          clear hJx3
          gi_wp2_with fail
          refine bodyPost_ret (results_none rfl _ _ _) rfl ?_
          exact ⟨⟨_, rfl⟩, .inr ⟨_, ⟨j + 1, by omega, (List.range_succ).symm⟩, HJ3.out⟩⟩
    · have hm : j = (L + 1) / 2 := by omega
      have HM := Lib.hid hm
      clear hm
      gi_wp2
      go_end0
      exact ⟨⟨_, rfl⟩, .inl ⟨_, by rw [HM.out], hJs⟩⟩

theorem grown_drew (W : World) : W.grownBy W.drew none := ⟨rfl, rfl, rfl, Nat.le_refl _, fun _ _ _ => rfl⟩

theorem chunks_stops (n : Nat) (hn : 1 ≤ n) (Bs Bn n₀ : Nat) (A : Option Addr) (ad : Addr) (c L : Nat) (hA : 0 < L → A = some ad) (hl : L ≤ 70368744177664) (hcap : L ≤ c) (w : World) (hB1 : Bs < w.heap.size) (hB2 : Bn < w.heap.size)
    (hc : w.cell? ⟨Bs, 0, none⟩ = some (.slice A L c)) (hn2 : w.cell? ⟨Bn, 0, none⟩ = some (.int .i64 2)) :
    SeqStopsK Fence.wide n Try.prog 42 #[.pointer (some ⟨Bs, 0, none⟩), .pointer (some ⟨Bn, 0, none⟩)] (fun q : Nat => #[chunkV ad L q]) (fun W W' => KB n₀ Bs W W' ∧ KB n₀ Bn W W') (fun ys => ys = List.range ((L + 1) / 2)) (fun pre => ∃ k, k ≤ (L + 1) / 2 ∧ pre = List.range k) ((L + 1) / 2) w := fun l J Jx W hW hJ _ hY h0 =>
  chunks_in n hn l Bs Bn n₀ A ad c L hA hl hcap J Jx (fun pre W' h => hJ pre W' _ none h (grown_drew W') (fun r e => by cases e)) hY W ((hW.cell (p := ⟨Bs, 0, none⟩) hB1).trans hc) ((hW.cell (p := ⟨Bn, 0, none⟩) hB2).trans hn2) h0

set_option maxHeartbeats 1000000 in
theorem chunk_in (n : Nat) (A : Option Addr) (m c : Nat) (w : World) :
    CallsIn Fence.wide n Try.prog 37 #[.slice A m c, .int .i64 2] w fun e w' => e = .returned (.func (.func 42) #[] #[.pointer (some ⟨w.heap.size, 0, none⟩), .pointer (some ⟨w.heap.size + 1, 0, none⟩)]) ∧ w' = (w.alloc (.cells #[.slice A m c] 71)).alloc (.cells #[.int .i64 2] 3) := by
  refine callsIn_of_wp Try.func37 rfl trivial ?_ rfl
  simp only [Try.ntmps37, List.size_toArray, List.length_cons, List.length_nil, Nat.reduceAdd, Nat.reduceSub, Array.replicate_succ, Array.replicate_zero, List.push_toArray, List.append_toArray, List.nil_append, List.cons_append]
  gi_wp2
  go_ret
  exact ⟨rfl, rfl⟩

theorem SI.up {w : World} {B : Nat} {k : IntKind} {A : Option Addr} {xs : List Int} (h : SI w B k A xs) : SI w w.heap.size k A xs := fun j hj => by
  obtain ⟨ad, e, hb, hc⟩ := h j hj
  exact ⟨ad, e, by have := cell_lt hc; rwa [block_of_add] at this, hc⟩

/-- What is soaked up of chunk q. -/
theorem soak_chunk (a b c : Int) [IsU a] [IsU b] [IsU c] (ad : Addr) (xs : List Int) (L q : Nat) (hL : L = xs.length) (hx : ∀ x ∈ xs, 0 ≤ x ∧ x < 18446744073709551616) (B : Nat) (w : World) (hs : 0 < xs.length → SI w B .u64 (some ad) xs) :
    Calls Try.prog 39 #[.agg #[.int .u64 a, .int .u64 b, .int .u64 c], chunkV ad L q] w fun e w' =>
      e = .returned (.agg #[.int .u64 (sk a xs[2 * q]?), .int .u64 (sk b xs[2 * q + 1]?), .int .u64 c]) ∧ Below w.heap.size w w' := by
  subst hL
  have h := soak_any a b c (some (ad.add (2 * q))) (min 2 (xs.length - 2 * q)) (min 2 (xs.length - 2 * q)) ((xs.drop (2 * q)).take 2) (by simp) (by omega) (fun x h => hx x (List.mem_of_mem_drop (List.mem_of_mem_take h))) w
    (by
      rcases Nat.lt_or_ge (2 * q) xs.length with hq | hq
      · have h := (hs (by omega)).up.part (2 * q) (min 2 (xs.length - 2 * q)) (by omega)
        have e : (xs.drop (2 * q)).take (min 2 (xs.length - 2 * q)) = (xs.drop (2 * q)).take 2 := by
          rcases Nat.le_or_ge 2 (xs.length - 2 * q) with h2 | h2
          · rw [Nat.min_eq_left h2]
          · rw [Nat.min_eq_right h2, List.take_of_length_le (by simp), List.take_of_length_le (by simp; omega)]
        rwa [e] at h
      · intro j hj
        simp at hj
        omega)
  have e0 : ((xs.drop (2 * q)).take 2)[0]? = xs[2 * q]? := by rw [List.getElem?_take_of_lt (by omega), List.getElem?_drop]; rfl
  have e1 : ((xs.drop (2 * q)).take 2)[1]? = xs[2 * q + 1]? := by rw [List.getElem?_take_of_lt (by omega), List.getElem?_drop]
  rw [e0, e1] at h
  exact h
end Go.Proofs.Ytgkdkkppeeikoaa

/- Contracts of the hash: the hash of bytes. -/
namespace Go.Proofs.Ytgkdkkppeeikoaa
open Go.ChangeShapes Go.WideShapes Go.ChangeAt Go.RowKit Go.Shelf Gs
set_option linter.unusedVariables false
attribute [local go_sem] Oper.semAt_some

theorem wpIn_named {F : Fence} {n : Nat} {P : Program} {c : Code} {K : Exit → Act → World → Prop} {a : Act} {W : World} (Q : World → Prop) (hQ : Q W) (h : ∀ w2, Q w2 → Code.wpIn F n P c K a w2) : Code.wpIn F n P c K a W := h W hQ

theorem callsIn_named {F : Fence} {n : Nat} {P : Program} {f : FuncId} {args : Array Value} {R : Ending → World → Prop} {W : World} (Q : World → Prop) (hQ : Q W) (h : ∀ w2, Q w2 → CallsIn F n P f args w2 R) : CallsIn F n P f args W R := h W hQ

theorem blk_own {β : Type} (B : Nat) (t : TypeId) (f : β → Array Value) : Own (fun s W => Blk W B t (f s)) := fun s X Y row hs hg hrow =>
  (hg.block B hs.lt (fun e' => by obtain ⟨o, ho, hc⟩ := hrow B e'.symm; rw [show X.heap[B]? = _ from hs] at ho; cases ho; cases hc)).trans hs
theorem si_own {β : Type} (B : Nat) (k : IntKind) (A : Option Addr) (xs : List Int) : Own (fun (_ : β) W => SI W B k A xs) := fun s X Y row hs hg hrow j hj => by
  obtain ⟨ad, e, hb, hc⟩ := hs j hj
  exact ⟨ad, e, hb, cell_kept hc hg hrow⟩
theorem keeps_below {W W' : World} (h : Below W.heap.size W W') : KeepsOthers W W' := ⟨h.size, fun k o hk _ => (h.block k (Array.getElem?_eq_some_iff.1 hk).1).trans hk⟩
theorem kb_below {W W' : World} {n₀ Bs : Nat} (h : Below W.heap.size W W') (hn : n₀ ≤ W.heap.size) (hb : Bs < W.heap.size) : KB n₀ Bs W W' := ⟨h.mono hn, h.block Bs hb⟩
theorem kb_set {W W' : World} {n₀ Bs : Nat} (h : KB n₀ Bs W W') {a : Addr} (hn : n₀ ≤ a.block) (hb : Bs ≠ a.block) (v : Value) : KB n₀ Bs W (W'.setCell a v) := ⟨h.1.setCell hn v, (Below.heap_setCell W' a v Bs hb).trans h.2⟩

theorem Blk.put {w : World} {g : Nat} {t : TypeId} {cs : Array Value} (h : Blk w g t cs) {l : Nat} (hl : g ≠ l) (o : Obj) : Blk (w.putObj l o) g t cs := ((grownBy_putObj' w l o).block g h.lt (fun e => hl (by cases e; rfl))).trans h

theorem own_slice2 {w : World} {B : Nat} {v : Value} {xs : List Int} (h : OwnU w B v xs) : ∃ A c, v = .slice A xs.length c ∧ xs.length ≤ c ∧ c ≤ maxLen ∧ SI w w.heap.size .u64 A xs ∧ ∀ ad, A = some ad → B ≤ ad.block := by
  obtain ⟨A, c, rfl, h1, h2, h3⟩ := own_slice h
  refine ⟨A, c, rfl, h1, h2, h3, fun ad e => ?_⟩
  subst e
  exact own_ge h _ rfl
theorem SI.set {w : World} {B : Nat} {k : IntKind} {A : Option Addr} {xs : List Int} (h : SI w B k A xs) {p : Addr} (hp : ∀ ad, A = some ad → ad.block ≠ p.block) (v : Value) : SI (w.setCell p v) B k A xs := fun j hj => by
  obtain ⟨ad, e, hb, hc⟩ := h j hj
  exact ⟨ad, e, hb, cell_far hc (by rw [block_of_add]; exact hp ad e)⟩

set_option maxRecDepth 100000 in
set_option maxHeartbeats 2000000 in
theorem Sum_any (A : Option Addr) (c : Nat) (xs : List Int) (hx : ∀ x ∈ xs, 0 ≤ x ∧ x < 256) (hl : xs.length ≤ 70368744177664) (hcap : xs.length ≤ c) (w : World) (hs : SI w w.heap.size .u8 A xs) :
    Calls Try.prog 33 #[.slice A xs.length c] w fun e w' => e = .returned (.agg #[.int .u64 (hst xs).1, .int .u64 (hst xs).2.1]) ∧ Below w.heap.size w w' := by
  have HX := Lib.hid hx
  have HS := Lib.hid hs
  clear hx hs
  refine (callsIn_wide (n := 6)).1 ?_
  refine callsIn_of_wp_marks Try.func33 rfl trivial ?_ rfl
  simp only [Try.ntmps33, List.size_toArray, List.length_cons, List.length_nil, Nat.reduceAdd, Nat.reduceSub, Array.replicate_succ, Array.replicate_zero, List.push_toArray, List.append_toArray, List.nil_append, List.cons_append]
  have HK : Hid (∃ s : S3, U3 s ∧ s = (if xs.length = 0 then hmix (0, 0, 0) else (0, 0, (xs.length : Int))) ∧ hst xs = habs (fof xs) s (((fof xs).length + 1) / 2)) := by
    refine ⟨_, ?_, rfl, ?_⟩
    · by_cases h : xs.length = 0
      · rw [if_pos h]; exact (hmix_el _).u3
      · rw [if_neg h]; exact ⟨⟨by simp, by simp⟩, ⟨by simp, by simp⟩, by simp, by simp; omega⟩
    · unfold hst
      by_cases h : xs.length = 0
      · rw [if_pos h, if_pos h, fof_length, h]; rfl
      · rw [if_neg h, if_neg h]
  obtain ⟨s, hsU, hs0, hsT⟩ := HK.out
  have HT := Lib.hid hsT
  have HU := Lib.hid hsU
  have HS0 := Lib.hid hs0
  clear hsU hsT HK hs0
  by_cases h0 : xs.length = 0
  case' pos =>
    have hb0 : ((xs.length : Int) == 0) = true := beq_iff_eq.2 (by omega)
    haveI : IsU ((xs.length : Nat) : Int) := ⟨by omega, by omega⟩
    have H0 := Lib.hid h0
    clear h0
    gi_wp2_with fail
    refine ⟨trivial, ?_⟩
    refine (callsIn_wide.2 (Mix_any 0 0 xs.length _)).mono ?_
    rintro e w1 ⟨rfl, hb⟩
    have B0 := Blk.below (g := w.heap.size) ((Blk.new_at w 56 #[.int .u64 0, .int .u64 0] rfl).alloc (.cells #[.int .u64 0, .int .u64 0, .int .u64 xs.length] 66)) hb (by simp; omega)
    have B1 := Blk.below (g := w.heap.size + 1) (Blk.new_at (w.alloc (.cells #[.int .u64 0, .int .u64 0] 56)) 66 #[.int .u64 0, .int .u64 0, .int .u64 xs.length] (by simp)) hb (by simp)
    have hB : Below w.heap.size w w1 := (((Below.refl _ _).alloc (Nat.le_refl _) _).alloc (by simp) _).trans (hb.mono (by simp; omega))
    obtain ⟨⟨c0, c1, c2⟩, f0, f1, f2⟩ := B1.facts3
    have H := Lib.hid (And.intro B0 (And.intro B1 hB))
    clear hb B0 B1 hB
    gi_wp2_with fail
    refine ⟨trivial, ?_⟩
    refine callsIn_named (fun w2 => Blk w2 w.heap.size 56 #[.int .u64 0, .int .u64 0] ∧ Blk w2 (w.heap.size + 1) 66 #[.int .u64 s.1, .int .u64 s.2.1, .int .u64 s.2.2] ∧ Below w.heap.size w w2) ?_ ?_
    · refine ⟨((H.out.1.other (by simp) _).other (by simp) _).other (by simp) _, ?_, ((H.out.2.2.setCell (by simp) _).setCell (by simp) _).setCell (by simp) _⟩
      rw [HS0.out, if_pos H0.out]
      have h := H.out.2.1.set3 (x' := .int .u64 (hmix (0, 0, (xs.length : Int))).1) (y' := .int .u64 (hmix (0, 0, (xs.length : Int))).2.1) (z' := .int .u64 (hmix (0, 0, (xs.length : Int))).2.2)
      rw [H0.out] at h ⊢
      exact h
    clear c0 c1 c2 f0 f1 f2 H H0
  case' neg =>
    have hb0 : ((xs.length : Int) == 0) = false := beq_eq_false_iff_ne.2 (by omega)
    have H0 := Lib.hid h0
    clear h0
    gi_wp2_with fail
    refine ⟨trivial, ?_⟩
    refine callsIn_named (fun w2 => Blk w2 w.heap.size 56 #[.int .u64 0, .int .u64 0] ∧ Blk w2 (w.heap.size + 1) 66 #[.int .u64 s.1, .int .u64 s.2.1, .int .u64 s.2.2] ∧ Below w.heap.size w w2) ?_ ?_
    · rw [HS0.out, if_neg H0.out]
      exact ⟨(Blk.new_at _ _ _ rfl).alloc _, Blk.new_at _ _ _ (by simp), ((Below.refl _ _).alloc (Nat.le_refl _) _).alloc (by simp) _⟩
  all_goals
    rintro w2 ⟨B0, B1, hB⟩
    refine (callsIn_wide.2 (Of_any A c xs HX.out hl hcap _ (HS.out.on hB))).mono ?_
    rintro e w3 ⟨v, rfl, hown, hb⟩
    obtain ⟨A1, c1, rfl, hl1, hm1, hs1, hne⟩ := own_slice2 hown
    have HS1 := Lib.hid hs1
    have HNE := Lib.hid (show ∀ ad, A1 = some ad → ad.block ≠ w.heap.size + 1 from fun ad e => by have := hne ad e; have := B1.lt; omega)
    have HF := Lib.hid (fof_el xs HX.out)
    have HL := Lib.hid (fof_length xs)
    have hL : (fof xs).length ≤ 70368744177664 := by rw [HL.out]; omega
    have D0 := B0.below hb B0.lt
    have D1 := B1.below hb B1.lt
    have hB3 := hB.trans (hb.mono hB.size)
    have lt1 := B1.lt
    have hz3 := hb.size
    have H3 := Lib.hid (And.intro D0 (And.intro D1 hB3))
    clear hne hs1 hown hb B0 B1 hB D0 D1 hB3 hm1
    generalize fof xs = l at *
    obtain ⟨ad, had⟩ : ∃ ad, 0 < l.length → A1 = some ad := by
      cases A1 with
      | none => exact ⟨⟨0, 0, none⟩, fun h => by obtain ⟨_, e, _⟩ := HS1.out 0 h; cases e⟩
      | some a => exact ⟨a, fun _ => rfl⟩
    have HA := Lib.hid had
    clear had
    gi_wp2_with fail
    refine ⟨trivial, ?_⟩
    refine (chunk_in _ _ _ _ _).mono ?_
    rintro e w4 ⟨rfl, rfl⟩
    gi_wp2_with fail
    have bS : Blk ((w3.alloc (.cells #[.slice A1 l.length c1] 71)).alloc (.cells #[.int .i64 2] 3)) w3.heap.size 71 #[.slice A1 l.length c1] := (Blk.new_at _ _ _ rfl).alloc _
    have bN : Blk ((w3.alloc (.cells #[.slice A1 l.length c1] 71)).alloc (.cells #[.int .i64 2] 3)) (w3.heap.size + 1) 3 #[.int .i64 2] := Blk.new_at _ _ _ (by simp)
    have hBe : Below w.heap.size w ((w3.alloc (.cells #[.slice A1 l.length c1] 71)).alloc (.cells #[.int .i64 2] 3)) := (H3.out.2.2.alloc H3.out.2.2.size _).alloc (by have := H3.out.2.2.size; simp; omega) _
    have b0 := (H3.out.1.alloc (.cells #[.slice A1 l.length c1] 71)).alloc (.cells #[.int .i64 2] 3)
    have b1 := (H3.out.2.1.alloc (.cells #[.slice A1 l.length c1] 71)).alloc (.cells #[.int .i64 2] 3)
    have hsi : SI ((w3.alloc (.cells #[.slice A1 l.length c1] 71)).alloc (.cells #[.int .i64 2] 3)) w3.heap.size .u64 A1 l := HS1.out.below (((Below.refl _ _).alloc (Nat.le_refl _) _).alloc (by simp) _)
    have hzz : ((w3.alloc (.cells #[.slice A1 l.length c1] 71)).alloc (.cells #[.int .i64 2] 3)).heap.size = w3.heap.size + 2 := by simp
    have HW := Lib.hid (And.intro bS (And.intro bN (And.intro hBe (And.intro b0 (And.intro b1 (And.intro hsi hzz))))))
    clear bS bN hBe b0 b1 hsi hzz
    generalize (w3.alloc (.cells #[.slice A1 l.length c1] 71)).alloc (.cells #[.int .i64 2] 3) = w4 at *
    obtain ⟨bS, bN, hBe, b0, b1, hsi, hzz⟩ := HW.out
    refine wpIn_rangeFunc_ownG rfl (by omega) (gf := 42) (lb := #[.pointer (some ⟨w3.heap.size, 0, none⟩), .pointer (some ⟨w3.heap.size + 1, 0, none⟩)]) rfl trivial (enters_of Try.func42 (by kernel_rfl) rfl)
      (chunks_stops _ (by omega) w3.heap.size (w3.heap.size + 1) w.heap.size A1 ad c1 l.length HA.out hL hl1 _ (by omega) (by omega) (bS.cell 0) (bN.cell 0)) (fun h k => ⟨h.1.trans k.1, h.2.trans k.2⟩) (fun W i o o' h1 h2 h3 h4 => ⟨KB.put (by omega) (by omega) W i o o' h1 h2 h3 h4, KB.put (by omega) (by omega) W i o o' h1 h2 h3 h4⟩) (Below.refl _ _) (fun _ => rfl)
      (fun pre W => (Blk W (w.heap.size + 1) 66 #[.int .u64 (habsL l s pre).1, .int .u64 (habsL l s pre).2.1, .int .u64 (habsL l s pre).2.2] ∧ Blk W w.heap.size 56 #[.int .u64 0, .int .u64 0] ∧ SI W w3.heap.size .u64 A1 l ∧ w3.heap.size + 2 ≤ W.heap.size) ∧ Below w.heap.size w W)
      (fun _ _ _ => False) ?_ (fun _ _ _ _ _ hs _ _ => hs) ?_ ?_ ?_ ?_ ?_ ?_
    rotate_left 3
    · intro i x W K hK
      gi_wp2
      exact hK
    · rintro i pre x W ⟨⟨k1, k0, ksi, kz⟩, kB⟩ hlt
      have hu := foldl_u l pre s HU.out
      haveI := IsU.of hu.1
      haveI := IsU.of hu.2.1
      haveI := IsU.of hu.2.2
      obtain ⟨⟨c0, c1, c2⟩, f0, f1, f2⟩ := k1.facts3
      have HI := Lib.hid (And.intro k1 (And.intro k0 (And.intro ksi kB)))
      clear k1 k0 ksi kB hu
      gi_wp2_with fail
      refine ⟨trivial, ?_⟩
      refine (CallsIn.inRound i (callsIn_wide.2 (soak_chunk _ _ _ ad l l.length x rfl (fun y hy => (HF.out y hy).u64) w3.heap.size _ (fun h => by rw [← HA.out h]; exact HI.out.2.2.1)))).mono ?_
      rintro e w5 ⟨rfl, hb5⟩
      have hst := HI.out.1.lt
      have hsz := HI.out.2.2.2.size
      have hz5 := hb5.size
      have D1 := HI.out.1.below hb5 hst
      have D0 := HI.out.2.1.below hb5 HI.out.2.1.lt
      have Dsi := HI.out.2.2.1.up.on hb5
      have DB := HI.out.2.2.2.trans (hb5.mono hsz)
      have HJ := Lib.hid (And.intro D1 (And.intro D0 (And.intro Dsi (And.intro DB hb5))))
      haveI := IsU.of (sk_u (foldl_u l pre s HU.out).1 l[2 * x]?)
      haveI := IsU.of (sk_u (foldl_u l pre s HU.out).2.1 l[2 * x + 1]?)
      haveI := IsU.of (foldl_u l pre s HU.out).2.2
      clear D1 D0 Dsi DB hb5 c0 c1 c2 f0 f1 f2
      gi_wp2_with fail
      refine ⟨trivial, ?_⟩
      refine (CallsIn.inRound i (callsIn_wide.2 (Mix_any _ _ _ _))).mono ?_
      rintro e w6 ⟨rfl, hb6⟩
      have E1 := HJ.out.1.below hb6 HJ.out.1.lt
      have E0 := HJ.out.2.1.below hb6 HJ.out.2.1.lt
      have Esi := HJ.out.2.2.1.below hb6
      have EB := HJ.out.2.2.2.1.trans (hb6.mono HJ.out.2.2.2.1.size)
      have EW := HJ.out.2.2.2.2.trans (hb6.mono HJ.out.2.2.2.2.size)
      obtain ⟨⟨c0, c1, c2⟩, f0, f1, f2⟩ := E1.facts3
      have HM := Lib.hid (And.intro E1 (And.intro E0 (And.intro Esi (And.intro EB EW))))
      clear E1 E0 Esi EB EW hb6
      gi_wp2_with fail
      have hw6 := HM.out.2.2.2.2.size
      refine ⟨((((keeps_below HM.out.2.2.2.2).trans (KeepsOthers.setCell _ _ _)).trans (KeepsOthers.setCell _ _ _)).trans (KeepsOthers.setCell _ _ _)).from _, ⟨?_, ?_⟩, ⟨?_, ?_, ?_, ?_⟩, ?_⟩
      · exact kb_set (kb_set (kb_set (kb_below HM.out.2.2.2.2 hsz (by omega)) (by simp) (by simp; omega) _) (by simp) (by simp; omega) _) (by simp) (by simp; omega) _
      · exact kb_set (kb_set (kb_set (kb_below HM.out.2.2.2.2 hsz (by omega)) (by simp) (by simp; omega) _) (by simp) (by simp; omega) _) (by simp) (by simp; omega) _
      · rw [habsL_snoc]; exact HM.out.1.set3
      · exact ((HM.out.2.1.other (by simp) _).other (by simp) _).other (by simp) _
      · exact ((((HI.out.2.2.1.below (HM.out.2.2.2.2.mono (by omega))).set HNE.out _).set HNE.out _).set HNE.out _)
      · simp [World.setCell]; omega
      · exact ((HM.out.2.2.2.1.setCell (by simp) _).setCell (by simp) _).setCell (by simp) _
    · rintro D ys W hD rfl ⟨⟨k1, k0, _, _⟩, kB⟩ hK
      obtain ⟨⟨c0, c1, c2⟩, f0, f1, f2⟩ := k1.facts3
      obtain ⟨⟨d0, d1⟩, g0, g1⟩ := k0.facts2
      have HKB := Lib.hid kB
      have HK0 := Lib.hid k0
      clear k1 k0 kB
      gi_wp2
      have hK' : (((W.setCell ⟨w.heap.size, 0, none⟩ (.int .u64 (habsL l s (List.range ((l.length + 1) / 2))).1)).setCell ⟨w.heap.size, 1, none⟩ (.int .u64 (habsL l s (List.range ((l.length + 1) / 2))).2.1))).heap[D]? = some (.deferred (some [])) :=
        (Below.heap_setCell _ _ _ D (by simp; omega)).trans ((Below.heap_setCell _ _ _ D (by simp; omega)).trans hK)
      refine ⟨by simp, .inl ⟨_, _, rfl, run_takeDeferred hK', ?_⟩⟩
      refine ⟨.agg #[.int .u64 (habsL l s (List.range ((l.length + 1) / 2))).1, .int .u64 (habsL l s (List.range ((l.length + 1) / 2))).2.1], ?_, ?_, ?_⟩
      · obtain ⟨⟨e0, e1⟩, _, _⟩ := ((HK0.out.set2 (x' := .int .u64 (habsL l s (List.range ((l.length + 1) / 2))).1) (y' := .int .u64 (habsL l s (List.range ((l.length + 1) / 2))).2.1)).put (show w.heap.size ≠ D by omega) (.deferred none)).facts2
        simp [results, Try.results33, go_sem, e0, e1]
      · rw [HT.out]; rfl
      · exact ((HKB.out.setCell (by simp) _).setCell (by simp) _).trans (belowK_b (w := w) (Nat.le_refl _) _ D _ _ (by omega) hK' rfl rfl)
    · rintro D cc pre W _ _ h _
      exact h.elim
    · exact OwnFrom.and (OwnFrom.and (Own.from (blk_own _ _ _) _) (OwnFrom.and (Own.from (blk_own _ _ (fun _ => #[.int .u64 0, .int .u64 0])) _) (OwnFrom.and (Own.from (si_own _ _ _ _) _) (fun _ _ _ _ hs hg _ => Nat.le_trans hs hg.size)))) (ownFrom_below (Nat.le_refl _) (by omega))
    · exact ⟨⟨b1, b0, hsi, by omega⟩, hBe⟩
end Go.Proofs.Ytgkdkkppeeikoaa

/- Contracts of the hash: the plain answer of the hash of bytes. -/
namespace Go.Proofs.Ytgkdkkppeeikoaa
open Go.ChangeShapes Go.WideShapes Go.ChangeAt Go.RowKit Go.Shelf Gs
set_option linter.unusedVariables false

theorem hst_ref (xs : List Int) : hst xs = habs (fof xs) (0, 0, xs.length) (max 1 (((fof xs).length + 1) / 2)) := by
  have hl := fof_length xs
  unfold hst
  by_cases h : xs.length = 0
  · rw [if_pos h]
    have h0 : (fof xs).length = 0 := by omega
    have h1 : fof xs = [] := List.eq_nil_of_length_eq_zero h0
    rw [h1, h]
    rfl
  · rw [if_neg h, show max 1 (((fof xs).length + 1) / 2) = ((fof xs).length + 1) / 2 by omega]

end Go.Proofs.Ytgkdkkppeeikoaa

/- Contracts of the hash: rounds and mixing, of the program and of the plain answer. -/
import Derived.Test.YtippfhlljlfcnaaBlk
import Derived.Test.YtippfhlljlfcnaaHashMath
import Derived.LoopN
import Derived.BigQuiet
import Derived.Deep.RegionHeld3
import Derived.Deep.DrawnRows
namespace Go.Proofs.Ytippfhlljlfcnaa
open Go.ChangeShapes Go.WideShapes Go.ChangeAt Go.RowKit Gs
set_option linter.unusedVariables false
attribute [local go_sem ↓] Go.wp_at_zero Go.wp_at_succ

theorem constant_any (r i : Nat) (hr : r < 8) (hi : i < 3) (w : World) :
    Calls Try.prog 88 #[.int .i64 r, .int .i64 i] w fun e w' => e = .returned (.int .u64 (kc r i)) ∧ w = w' := by
  have hk := kc_bound r i hr hi
  have e0 : kc r i = (3 * (r : Int) + i + 1) * (3 * (r : Int) + i + 1) * (3 * (r : Int) + i + 1) + 7 := by unfold kc; push_cast; rfl
  have h0 : (3 : Int) * r + i + 1 ≤ 24 := by omega
  have h1 : (3 * (r : Int) + i + 1) * (3 * (r : Int) + i + 1) ≤ 24 * 24 := Int.mul_le_mul h0 h0 (by omega) (by omega)
  have h2 : 0 ≤ (3 * (r : Int) + i + 1) * (3 * (r : Int) + i + 1) := Int.mul_nonneg (by omega) (by omega)
  have E0 := Lib.hid e0
  have HK := Lib.hid hk
  have H1 := Lib.hid (And.intro h2 h1)
  clear e0 hk h1 h2
  go_enter Try.func88, Try.ntmps88
  go_wp2
  go_ret
  refine ⟨ret_u64 ?_, rfl⟩
  have hk := HK.out
  have h1 := H1.out
  rw [E0.out] at hk ⊢
  have h3 : 0 ≤ (3 * (r : Int) + i + 1) * (3 * (r : Int) + i + 1) * (3 * (r : Int) + i + 1) := Int.mul_nonneg h1.1 (by omega)
  rw [IntWalk.u64_in ((3 * (r : Int) + i + 1) * (3 * (r : Int) + i + 1)) (by omega), IntWalk.u64_in ((3 * (r : Int) + i + 1) * (3 * (r : Int) + i + 1) * (3 * (r : Int) + i + 1)) (by omega), IntWalk.u64_in _ (by omega)]

theorem each_r1 (p : Value) (y0 y1 y2 : Int) (a b c : Int) (w : World)
   (h0 : ∀ W, Below w.heap.size w W → Calls Try.prog 86 #[.int .i64 0, .int .u64 a, p] W fun e w' => e = .returned (.int .u64 y0) ∧ W = w')
   (h1 : ∀ W, Below w.heap.size w W → Calls Try.prog 86 #[.int .i64 1, .int .u64 b, p] W fun e w' => e = .returned (.int .u64 y1) ∧ W = w')
   (h2 : ∀ W, Below w.heap.size w W → Calls Try.prog 86 #[.int .i64 2, .int .u64 c, p] W fun e w' => e = .returned (.int .u64 y2) ∧ W = w') :
    Calls Try.prog 81 #[.agg #[.int .u64 a, .int .u64 b, .int .u64 c], .func (.func 86) #[] #[p]] w fun e w' => e = .returned (.agg #[.int .u64 y0, .int .u64 y1, .int .u64 y2]) ∧ Below w.heap.size w w' := by
  have H0 := Lib.hid h0
  have H1 := Lib.hid h1
  have H2 := Lib.hid h2
  clear h0 h1 h2
  have i0 : ∀ w x0 x1 x2, (Instr.index 70 (.agg #[x0, x1, x2]) (.int .i64 0)).run Try.prog w = .ok x0 w := fun _ _ _ _ => by kernel_rfl
  have i1 : ∀ w x0 x1 x2, (Instr.index 70 (.agg #[x0, x1, x2]) (.int .i64 1)).run Try.prog w = .ok x1 w := fun _ _ _ _ => by kernel_rfl
  have i2 : ∀ w x0 x1 x2, (Instr.index 70 (.agg #[x0, x1, x2]) (.int .i64 2)).run Try.prog w = .ok x2 w := fun _ _ _ _ => by kernel_rfl
  go_enter Try.func81, Try.ntmps81
  go_wp2
  refine wp_loop_rounds 4 ?_
  rw [rounds_succ]
  go_wp2_with fail
  refine Calls.mono (H0.out _ ?_) ?_
  · (repeat (first | exact Below.refl _ _ | (refine Below.setCell ?_ (by simp) _) | (refine Below.alloc ?_ (by simp) _)))
  rintro e w' ⟨rfl, rfl⟩
  go_wp2_with fail
  rw [rounds_succ]
  go_wp2_with fail
  refine Calls.mono (H1.out _ ?_) ?_
  · (repeat (first | exact Below.refl _ _ | (refine Below.setCell ?_ (by simp) _) | (refine Below.alloc ?_ (by simp) _)))
  rintro e w' ⟨rfl, rfl⟩
  go_wp2_with fail
  rw [rounds_succ]
  go_wp2_with fail
  refine Calls.mono (H2.out _ ?_) ?_
  · (repeat (first | exact Below.refl _ _ | (refine Below.setCell ?_ (by simp) _) | (refine Below.alloc ?_ (by simp) _)))
  rintro e w' ⟨rfl, rfl⟩
  go_wp2_with fail
  rw [rounds_succ]
  go_wp2_with fail
  exact bodyPost_ret (v := .agg #[.int .u64 y0, .int .u64 y1, .int .u64 y2]) (by simp [results, Try.results81, go_sem]) rfl ⟨rfl, by (repeat (first | exact Below.refl _ _ | (refine Below.setCell ?_ (by simp) _) | (refine Below.alloc ?_ (by simp) _)))⟩

theorem each_r2 (p : Value) (y0 y1 y2 : Int) (a b c : Int) (w : World)
   (h0 : ∀ W, Below w.heap.size w W → Calls Try.prog 89 #[.int .i64 0, .int .u64 a, p] W fun e w' => e = .returned (.int .u64 y0) ∧ W = w')
   (h1 : ∀ W, Below w.heap.size w W → Calls Try.prog 89 #[.int .i64 1, .int .u64 b, p] W fun e w' => e = .returned (.int .u64 y1) ∧ W = w')
   (h2 : ∀ W, Below w.heap.size w W → Calls Try.prog 89 #[.int .i64 2, .int .u64 c, p] W fun e w' => e = .returned (.int .u64 y2) ∧ W = w') :
    Calls Try.prog 81 #[.agg #[.int .u64 a, .int .u64 b, .int .u64 c], .func (.func 89) #[] #[p]] w fun e w' => e = .returned (.agg #[.int .u64 y0, .int .u64 y1, .int .u64 y2]) ∧ Below w.heap.size w w' := by
  have H0 := Lib.hid h0
  have H1 := Lib.hid h1
  have H2 := Lib.hid h2
  clear h0 h1 h2
  have i0 : ∀ w x0 x1 x2, (Instr.index 70 (.agg #[x0, x1, x2]) (.int .i64 0)).run Try.prog w = .ok x0 w := fun _ _ _ _ => by kernel_rfl
  have i1 : ∀ w x0 x1 x2, (Instr.index 70 (.agg #[x0, x1, x2]) (.int .i64 1)).run Try.prog w = .ok x1 w := fun _ _ _ _ => by kernel_rfl
  have i2 : ∀ w x0 x1 x2, (Instr.index 70 (.agg #[x0, x1, x2]) (.int .i64 2)).run Try.prog w = .ok x2 w := fun _ _ _ _ => by kernel_rfl
  go_enter Try.func81, Try.ntmps81
  go_wp2
  refine wp_loop_rounds 4 ?_
  rw [rounds_succ]
  go_wp2_with fail
  refine Calls.mono (H0.out _ ?_) ?_
  · (repeat (first | exact Below.refl _ _ | (refine Below.setCell ?_ (by simp) _) | (refine Below.alloc ?_ (by simp) _)))
  rintro e w' ⟨rfl, rfl⟩
  go_wp2_with fail
  rw [rounds_succ]
  go_wp2_with fail
  refine Calls.mono (H1.out _ ?_) ?_
  · (repeat (first | exact Below.refl _ _ | (refine Below.setCell ?_ (by simp) _) | (refine Below.alloc ?_ (by simp) _)))
  rintro e w' ⟨rfl, rfl⟩
  go_wp2_with fail
  rw [rounds_succ]
  go_wp2_with fail
  refine Calls.mono (H2.out _ ?_) ?_
  · (repeat (first | exact Below.refl _ _ | (refine Below.setCell ?_ (by simp) _) | (refine Below.alloc ?_ (by simp) _)))
  rintro e w' ⟨rfl, rfl⟩
  go_wp2_with fail
  rw [rounds_succ]
  go_wp2_with fail
  exact bodyPost_ret (v := .agg #[.int .u64 y0, .int .u64 y1, .int .u64 y2]) (by simp [results, Try.results81, go_sem]) rfl ⟨rfl, by (repeat (first | exact Below.refl _ _ | (refine Below.setCell ?_ (by simp) _) | (refine Below.alloc ?_ (by simp) _)))⟩

theorem each_s1 (p : Value) (y0 y1 y2 : Int) (a b c : Int) (w : World)
   (h0 : ∀ W, Below w.heap.size w W → Calls Try.prog 82 #[.int .i64 0, .int .u64 a, p] W fun e w' => e = .returned (.int .u64 y0) ∧ W = w')
   (h1 : ∀ W, Below w.heap.size w W → Calls Try.prog 82 #[.int .i64 1, .int .u64 b, p] W fun e w' => e = .returned (.int .u64 y1) ∧ W = w')
   (h2 : ∀ W, Below w.heap.size w W → Calls Try.prog 82 #[.int .i64 2, .int .u64 c, p] W fun e w' => e = .returned (.int .u64 y2) ∧ W = w') :
    Calls Try.prog 81 #[.agg #[.int .u64 a, .int .u64 b, .int .u64 c], .func (.func 82) #[] #[p]] w fun e w' => e = .returned (.agg #[.int .u64 y0, .int .u64 y1, .int .u64 y2]) ∧ Below w.heap.size w w' := by
  have H0 := Lib.hid h0
  have H1 := Lib.hid h1
  have H2 := Lib.hid h2
  clear h0 h1 h2
  have i0 : ∀ w x0 x1 x2, (Instr.index 70 (.agg #[x0, x1, x2]) (.int .i64 0)).run Try.prog w = .ok x0 w := fun _ _ _ _ => by kernel_rfl
  have i1 : ∀ w x0 x1 x2, (Instr.index 70 (.agg #[x0, x1, x2]) (.int .i64 1)).run Try.prog w = .ok x1 w := fun _ _ _ _ => by kernel_rfl
  have i2 : ∀ w x0 x1 x2, (Instr.index 70 (.agg #[x0, x1, x2]) (.int .i64 2)).run Try.prog w = .ok x2 w := fun _ _ _ _ => by kernel_rfl
  go_enter Try.func81, Try.ntmps81
  go_wp2
  refine wp_loop_rounds 4 ?_
  rw [rounds_succ]
  go_wp2_with fail
  refine Calls.mono (H0.out _ ?_) ?_
  · (repeat (first | exact Below.refl _ _ | (refine Below.setCell ?_ (by simp) _) | (refine Below.alloc ?_ (by simp) _)))
  rintro e w' ⟨rfl, rfl⟩
  go_wp2_with fail
  rw [rounds_succ]
  go_wp2_with fail
  refine Calls.mono (H1.out _ ?_) ?_
  · (repeat (first | exact Below.refl _ _ | (refine Below.setCell ?_ (by simp) _) | (refine Below.alloc ?_ (by simp) _)))
  rintro e w' ⟨rfl, rfl⟩
  go_wp2_with fail
  rw [rounds_succ]
  go_wp2_with fail
  refine Calls.mono (H2.out _ ?_) ?_
  · (repeat (first | exact Below.refl _ _ | (refine Below.setCell ?_ (by simp) _) | (refine Below.alloc ?_ (by simp) _)))
  rintro e w' ⟨rfl, rfl⟩
  go_wp2_with fail
  rw [rounds_succ]
  go_wp2_with fail
  exact bodyPost_ret (v := .agg #[.int .u64 y0, .int .u64 y1, .int .u64 y2]) (by simp [results, Try.results81, go_sem]) rfl ⟨rfl, by (repeat (first | exact Below.refl _ _ | (refine Below.setCell ?_ (by simp) _) | (refine Below.alloc ?_ (by simp) _)))⟩

theorem round1_any (r i : Nat) (x : Int) (hr : r < 8) (hi : i < 3) [IsU x] (ad : Addr) (w : World) (hc : w.cell? ad = some (.int .i64 r)) :
    Calls Try.prog 86 #[.int .i64 i, .int .u64 x, .pointer (some ad)] w fun e w' => e = .returned (.int .u64 (sb r i x)) ∧ w = w' := by
  have hk := kc_bound r i hr hi
  have hp := Pow_any (fadd x (kc r i)) 17 IsU.lo IsU.hi (by omega) (by omega)
  rw [show (17 : Int).toNat = 17 from rfl] at hp
  have HP := Lib.hid hp
  clear hp
  haveI : IsU (kc r i) := ⟨hk.1, by omega⟩
  go_enter Try.func86, Try.ntmps86
  go_wp2_with fail
  refine (constant_any r i hr hi _).mono ?_; rintro e w' ⟨rfl, rfl⟩
  go_wp2_with fail
  refine (Add_i _ _ _).mono ?_; rintro e w' ⟨rfl, rfl⟩
  go_wp2_with fail
  refine (HP.out _).mono ?_; rintro e w' ⟨rfl, rfl⟩
  go_wp2_with fail
  go_ret
  exact ⟨rfl, rfl⟩

theorem round2_any (i x y : Int) [IsU x] [IsU y] (ad : Addr) (w : World) (hc : w.cell? ad = some (.int .u64 y)) :
    Calls Try.prog 89 #[.int .i64 i, .int .u64 x, .pointer (some ad)] w fun e w' => e = .returned (.int .u64 (fadd x y)) ∧ w = w' := by
  go_enter Try.func89, Try.ntmps89
  go_wp2_with fail
  refine (Add_i _ _ _).mono ?_; rintro e w' ⟨rfl, rfl⟩
  go_wp2_with fail
  go_ret
  exact ⟨rfl, rfl⟩

instance (r i : Nat) (x : Int) : IsU (sb r i x) := IsU.of (fpow_el _ _).u64
instance (r : Nat) (a b c : Int) : IsU (rall r a b c) := IsU.of (fadd_el _ _).u64

set_option maxHeartbeats 1000000 in
theorem round_any (r : Nat) (hr : r < 8) (a b c : Int) [IsU a] [IsU b] [IsU c] (w : World) :
    Calls Try.prog 78 #[.int .i64 r, .agg #[.int .u64 a, .int .u64 b, .int .u64 c]] w fun e w' =>
      e = .returned (.agg #[.int .u64 (rnd r (a, b, c)).1, .int .u64 (rnd r (a, b, c)).2.1, .int .u64 (rnd r (a, b, c)).2.2]) ∧ Below w.heap.size w w' := by
  go_enter Try.func78, Try.ntmps78
  go_wp2_with fail
  refine Calls.mono (each_r1 _ (sb r 0 a) (sb r 1 b) (sb r 2 c) a b c _ (fun W hW => round1_any r 0 a hr (by omega) ⟨w.heap.size, 0, none⟩ W ?_) (fun W hW => round1_any r 1 b hr (by omega) ⟨w.heap.size, 0, none⟩ W ?_) (fun W hW => round1_any r 2 c hr (by omega) ⟨w.heap.size, 0, none⟩ W ?_)) ?_
  · exact (hW.cell (by first | (simp; done) | (simp; omega))).trans (by simp [go_sem])
  · exact (hW.cell (by first | (simp; done) | (simp; omega))).trans (by simp [go_sem])
  · exact (hW.cell (by first | (simp; done) | (simp; omega))).trans (by simp [go_sem])
  rintro e w1 ⟨rfl, hb⟩
  have HB := Lib.hid hb
  obtain ⟨hc, hf⟩ := bcell hb
  have hz := hb.size
  simp at hz
  clear hb
  go_wp2_with fail
  refine wp_named (fun w2 => Blk w2 (w.heap.size + 1) 70 #[.int .u64 (sb r 0 a), .int .u64 (sb r 1 b), .int .u64 (sb r 2 c)] ∧ Below w.heap.size w w2 ∧ Blk w2 (w.heap.size + 1 + 1) 70 #[.int .u64 0, .int .u64 0, .int .u64 0]) ?_ ?_
  · have hb := HB.out
    refine ⟨Blk.set3 (Blk.below ((Blk.new_at _ _ _ (by first | (simp; done) | (simp; omega))).alloc _) hb (by first | (simp; done) | (simp; omega))), ?_, ?_⟩
    · refine Below.setCell (Below.setCell (Below.setCell (Below.trans ?_ (hb.mono (by first | (simp; done) | (simp; omega)))) (by first | (simp; done) | (simp; omega)) _) (by first | (simp; done) | (simp; omega)) _) (by first | (simp; done) | (simp; omega)) _
      repeat (first | exact Below.refl _ _ | (refine Below.alloc ?_ (by first | (simp; done) | (simp; omega)) _))
    · refine Blk.other (Blk.other (Blk.other (Blk.below (Blk.new_at _ _ _ (by first | (simp; done) | (simp; omega))) hb (by first | (simp; done) | (simp; omega))) (by first | (simp; done) | (simp; omega)) _) (by first | (simp; done) | (simp; omega)) _) (by first | (simp; done) | (simp; omega)) _
  clear hc hf hz HB
  rintro w2 ⟨hB1, hb2, hB2⟩
  obtain ⟨⟨c0, c1, c2⟩, f0, f1, f2⟩ := hB1.facts3
  have l2 := hB2.lt
  have HB1 := Lib.hid hB1
  have HB2 := Lib.hid hB2
  have HBe := Lib.hid hb2
  clear hB1 hB2 hb2
  go_region_held3 (fun w' => w'.cell? ⟨w.heap.size + 1, 0, none⟩ = some (.int .u64 (sb r 0 a)) ∧ w'.cell? ⟨w.heap.size + 1, 1, none⟩ = some (.int .u64 (sb r 1 b)) ∧ w'.cell? ⟨w.heap.size + 1, 2, none⟩ = some (.int .u64 (sb r 2 c))) (go_keep)
    ((go_at_call 83; refine (Add_i _ _ _).mono ?_; rintro e w' ⟨rfl, rfl⟩))
  all_goals
    clear c0 c1 c2 f0 f1 f2
    obtain ⟨⟨c0, c1, c2⟩, f0, f1, f2⟩ := ((HB1.out.alloc (.cells #[.int .u64 (fadd (fadd (sb r 0 a) (sb r 1 b)) (sb r 2 c))] 23)).drew).facts3
    go_wp2_with fail
    refine Calls.mono (each_r2 _ (fadd (sb r 0 a) (rall r a b c)) (fadd (sb r 1 b) (rall r a b c)) (fadd (sb r 2 c) (rall r a b c)) _ _ _ _ (fun W hW => round2_any 0 (sb r 0 a) (rall r a b c) ⟨w2.heap.size, 0, none⟩ W ?_) (fun W hW => round2_any 1 (sb r 1 b) (rall r a b c) ⟨w2.heap.size, 0, none⟩ W ?_) (fun W hW => round2_any 2 (sb r 2 c) (rall r a b c) ⟨w2.heap.size, 0, none⟩ W ?_)) ?_
    iterate 3 exact (hW.cell (by first | (simp; done) | (simp; omega))).trans (by simp [go_sem, rall])
    rintro e w3 ⟨rfl, hb3⟩
    have B2 := (HB2.out.alloc (.cells #[.int .u64 (fadd (fadd (sb r 0 a) (sb r 1 b)) (sb r 2 c))] 23)).drew.below hb3 (by first | (simp; done) | (simp; omega))
    clear c0 c1 c2 f0 f1 f2
    obtain ⟨⟨c0, c1, c2⟩, f0, f1, f2⟩ := B2.facts3
    have HB3 := Lib.hid hb3
    clear hb3 B2
    go_wp2_with fail
    refine bodyPost_ret (v := .agg #[.int .u64 (fadd (sb r 0 a) (rall r a b c)), .int .u64 (fadd (sb r 1 b) (rall r a b c)), .int .u64 (fadd (sb r 2 c) (rall r a b c))]) (by simp [results, Try.results78, go_sem, c0, c1, c2]) rfl ⟨rfl, ?_⟩
    have hz2 := HBe.out.size
    refine Below.setCell (Below.setCell (Below.setCell (Below.trans (Below.drew (Below.alloc HBe.out hz2 _)) (HB3.out.mono (by first | (simp; done) | (simp; omega)))) (by first | (simp; done) | (simp; omega)) _) (by first | (simp; done) | (simp; omega)) _) (by first | (simp; done) | (simp; omega)) _

set_option maxHeartbeats 1000000 in
theorem Mix_any (a b c : Int) [IsU a] [IsU b] [IsU c] (w : World) :
    Calls Try.prog 72 #[.agg #[.int .u64 a, .int .u64 b, .int .u64 c]] w fun e w' =>
      e = .returned (.agg #[.int .u64 (hmix (a, b, c)).1, .int .u64 (hmix (a, b, c)).2.1, .int .u64 (hmix (a, b, c)).2.2]) ∧ Below w.heap.size w w' := by
  have HU := Lib.hid (mixTo_u (a, b, c) ⟨⟨IsU.lo, IsU.hi⟩, ⟨IsU.lo, IsU.hi⟩, ⟨IsU.lo, IsU.hi⟩⟩)
  go_enter Try.func72, Try.ntmps72
  go_wp2_with fail
  go_loopw [3, 4] (fun r i wr => ∃ k : Nat, k ≤ 8 ∧ i = .int .i64 k ∧ Blk wr w.heap.size 70 #[.int .u64 (mixTo (a, b, c) k).1, .int .u64 (mixTo (a, b, c) k).2.1, .int .u64 (mixTo (a, b, c) k).2.2] ∧ Blk wr (w.heap.size + 1) 70 #[.int .u64 0, .int .u64 0, .int .u64 0] ∧ Below w.heap.size w wr) (fun _ i _ => 8 - (intOf i).toNat)
  case atStart =>
    exact ⟨0, by omega, rfl, (Blk.new_at _ _ _ rfl).alloc _, Blk.new_at _ _ _ (by first | omega | (simp; done) | (simp; omega)), ((Below.refl _ _).alloc (Nat.le_refl _) _).alloc (by first | omega | (simp; done) | (simp; omega)) _⟩
  case round =>
    obtain ⟨k, hk, rfl, hB1, hB2, hb⟩ := hrel
    obtain ⟨⟨c0, c1, c2⟩, f0, f1, f2⟩ := hB1.facts3
    have H1 := Lib.hid hB1
    have H2 := Lib.hid hB2
    have HB := Lib.hid hb
    have hz := hB2.lt
    clear hB1 hB2 hb
    by_cases hlt : k < 8
    · haveI := IsU.of (HU.out k).1
      haveI := IsU.of (HU.out k).2.1
      haveI := IsU.of (HU.out k).2.2
      go_wp2_with fail
      refine Calls.mono (round_any k hlt _ _ _ _) ?_
      rintro e w1 ⟨rfl, hb⟩
      have B1 := H1.out.below hb (by first | omega | (simp; done) | (simp; omega))
      have B2 := H2.out.below hb (by first | omega | (simp; done) | (simp; omega))
      have HB1 := Lib.hid (HB.out.trans (hb.mono HB.out.size))
      clear hb c0 c1 c2 f0 f1 f2
      obtain ⟨⟨c0, c1, c2⟩, f0, f1, f2⟩ := B1.facts3
      have K1 := Lib.hid B1
      have K2 := Lib.hid B2
      clear B1 B2
      go_wp2_with fail
      go_roundw
      case rel => exact ⟨k + 1, by omega, by go_num, K1.out.set3, ((K2.out.other (by first | omega | (simp; done) | (simp; omega)) _).other (by first | omega | (simp; done) | (simp; omega)) _).other (by first | omega | (simp; done) | (simp; omega)) _, ((HB1.out.setCell (by first | omega | (simp; done) | (simp; omega)) _).setCell (by first | omega | (simp; done) | (simp; omega)) _).setCell (by first | omega | (simp; done) | (simp; omega)) _⟩
      case measure => simp [intOf]; omega
    · obtain rfl : k = 8 := by omega
      have g := H2.out.facts3
      obtain ⟨⟨d0, d1, d2⟩, g0, g1, g2⟩ := g
      go_wp2_with fail
      refine bodyPost_ret (v := .agg #[.int .u64 (mixTo (a, b, c) 8).1, .int .u64 (mixTo (a, b, c) 8).2.1, .int .u64 (mixTo (a, b, c) 8).2.2]) (by simp [results, Try.results72, go_sem, d0, d1, d2]) rfl ⟨rfl, ?_⟩
      exact ((HB.out.setCell (by first | omega | (simp; done) | (simp; omega)) _).setCell (by first | omega | (simp; done) | (simp; omega)) _).setCell (by first | omega | (simp; done) | (simp; omega)) _

theorem raised_any (x : Int) [IsU x] (n : Nat) (hn : n ≤ 100) (w : World) :
    Calls Try.prog 77 #[.int .u64 x, .int .i64 n] w fun e w' => e = .returned (.int .u64 (fpow x n)) ∧ w = w' := by
  go_enter Try.func77, Try.ntmps77
  go_wp2
  go_loop [5, 6] (fun p i => ∃ k : Nat, k ≤ n ∧ i = .int .i64 k ∧ p = .int .u64 (fpow x k)) (fun _ i => n - (intOf i).toNat)
  case atStart => exact ⟨0, by omega, rfl, by rw [fpow_zero]⟩
  case round =>
    obtain ⟨k, hk, rfl, rfl⟩ := hrel
    by_cases hlt : k < n
    · have HS := Lib.hid (show fmul (fpow x k) x = fpow x (k + 1) by rw [← fpow_add, fpow_one, fmul_red_r])
      go_wp2_with fail
      refine (refMul_any _ _ IsU.lo IsU.hi IsU.lo IsU.hi _).mono ?_; rintro e w' ⟨rfl, rfl⟩
      go_wp2_with fail
      go_round
      case rel => exact ⟨k + 1, by omega, by go_num, by rw [HS.out]⟩
      case measure => simp [intOf]; omega
    · obtain rfl : k = n := by omega
      go_wp2_with fail
      go_ret
      exact ⟨rfl, rfl⟩

theorem kc_ref (r i : Nat) (m : Int) (hm : m = ((3 * r + i + 1 : Nat) : Int)) (hr : r < 8) (hi : i < 3) : fadd (fpow m 3) 7 = kc r i := by
  subst hm
  have h := kc_bound r i hr hi
  have h2 : fadd (fpow ((3 * r + i + 1 : Nat) : Int) 3) 7 = kc r i % PP := by
    unfold fadd fpow kc
    rw [Int.emod_add_emod]
    congr 2
    rw [Int.pow_succ, Int.pow_succ, Int.pow_succ, Int.pow_zero, Int.one_mul]
  rw [h2]
  unfold PP
  omega

set_option maxHeartbeats 2000000 in
theorem refround_any (r : Nat) (hr : r < 8) (a b c : Int) [IsU a] [IsU b] [IsU c] (w : World) :
    Calls Try.prog 71 #[.agg #[.int .u64 a, .int .u64 b, .int .u64 c], .int .i64 r] w fun e w' =>
      e = .returned (.agg #[.int .u64 (rnd r (a, b, c)).1, .int .u64 (rnd r (a, b, c)).2.1, .int .u64 (rnd r (a, b, c)).2.2]) ∧ Below w.heap.size w w' := by
  have u0 := kc_bound r 0 hr (by omega)
  haveI : IsU (kc r 0) := ⟨u0.1, by omega⟩
  have R0 := Lib.hid (fun w => @raised_any (3 * (r : Int) + 1) ⟨by omega, by omega⟩ 3 (by omega) w)
  have A0 : Hid (∀ w, Calls Try.prog 63 #[.int .u64 (fpow (3 * (r : Int) + 1) 3), .int .u64 7] w fun e w' => e = .returned (.int .u64 (kc r 0)) ∧ w = w') := by
    intro w
    have h := refAdd_any (fpow (3 * (r : Int) + 1) 3) 7 (fpow_el _ _).u64.1 (fpow_el _ _).u64.2 (by omega) (by omega) w
    rw [kc_ref r 0 (3 * (r : Int) + 1) (by push_cast; omega) hr (by omega)] at h
    exact h
  have B0 : Hid (∀ w, Calls Try.prog 77 #[.int .u64 (fadd a (kc r 0)), .int .i64 17] w fun e w' => e = .returned (.int .u64 (sb r 0 a)) ∧ w = w') := fun w => raised_any _ 17 (by omega) w
  have u1 := kc_bound r 1 hr (by omega)
  haveI : IsU (kc r 1) := ⟨u1.1, by omega⟩
  have R1 := Lib.hid (fun w => @raised_any (3 * (r : Int) + 1 + 1) ⟨by omega, by omega⟩ 3 (by omega) w)
  have A1 : Hid (∀ w, Calls Try.prog 63 #[.int .u64 (fpow (3 * (r : Int) + 1 + 1) 3), .int .u64 7] w fun e w' => e = .returned (.int .u64 (kc r 1)) ∧ w = w') := by
    intro w
    have h := refAdd_any (fpow (3 * (r : Int) + 1 + 1) 3) 7 (fpow_el _ _).u64.1 (fpow_el _ _).u64.2 (by omega) (by omega) w
    rw [kc_ref r 1 (3 * (r : Int) + 1 + 1) (by push_cast; omega) hr (by omega)] at h
    exact h
  have B1 : Hid (∀ w, Calls Try.prog 77 #[.int .u64 (fadd b (kc r 1)), .int .i64 17] w fun e w' => e = .returned (.int .u64 (sb r 1 b)) ∧ w = w') := fun w => raised_any _ 17 (by omega) w
  have u2 := kc_bound r 2 hr (by omega)
  haveI : IsU (kc r 2) := ⟨u2.1, by omega⟩
  have R2 := Lib.hid (fun w => @raised_any (3 * (r : Int) + 2 + 1) ⟨by omega, by omega⟩ 3 (by omega) w)
  have A2 : Hid (∀ w, Calls Try.prog 63 #[.int .u64 (fpow (3 * (r : Int) + 2 + 1) 3), .int .u64 7] w fun e w' => e = .returned (.int .u64 (kc r 2)) ∧ w = w') := by
    intro w
    have h := refAdd_any (fpow (3 * (r : Int) + 2 + 1) 3) 7 (fpow_el _ _).u64.1 (fpow_el _ _).u64.2 (by omega) (by omega) w
    rw [kc_ref r 2 (3 * (r : Int) + 2 + 1) (by push_cast; omega) hr (by omega)] at h
    exact h
  have B2 : Hid (∀ w, Calls Try.prog 77 #[.int .u64 (fadd c (kc r 2)), .int .i64 17] w fun e w' => e = .returned (.int .u64 (sb r 2 c)) ∧ w = w') := fun w => raised_any _ 17 (by omega) w
  clear u0 u1 u2
  go_enter Try.func71, Try.ntmps71
  go_wp2_with fail
  refine wp_loop_rounds 4 ?_
  rw [rounds_succ]
  go_wp2_with fail
  refine (R0.out _).mono ?_; rintro e w' ⟨rfl, rfl⟩
  go_wp2_with fail
  refine (A0.out _).mono ?_; rintro e w' ⟨rfl, rfl⟩
  go_wp2_with fail
  refine (refAdd_i _ _ _).mono ?_; rintro e w' ⟨rfl, rfl⟩
  go_wp2_with fail
  refine (B0.out _).mono ?_; rintro e w' ⟨rfl, rfl⟩
  go_wp2_with fail
  rw [rounds_succ]
  go_wp2_with fail
  refine (R1.out _).mono ?_; rintro e w' ⟨rfl, rfl⟩
  go_wp2_with fail
  refine (A1.out _).mono ?_; rintro e w' ⟨rfl, rfl⟩
  go_wp2_with fail
  refine (refAdd_i _ _ _).mono ?_; rintro e w' ⟨rfl, rfl⟩
  go_wp2_with fail
  refine (B1.out _).mono ?_; rintro e w' ⟨rfl, rfl⟩
  go_wp2_with fail
  rw [rounds_succ]
  go_wp2_with fail
  refine (R2.out _).mono ?_; rintro e w' ⟨rfl, rfl⟩
  go_wp2_with fail
  refine (A2.out _).mono ?_; rintro e w' ⟨rfl, rfl⟩
  go_wp2_with fail
  refine (refAdd_i _ _ _).mono ?_; rintro e w' ⟨rfl, rfl⟩
  go_wp2_with fail
  refine (B2.out _).mono ?_; rintro e w' ⟨rfl, rfl⟩
  go_wp2_with fail
  rw [rounds_succ]
  go_wp2_with fail
  refine wp_named (fun w2 => Blk w2 (w.heap.size + 1 + 1) 70 #[.int .u64 (sb r 0 a), .int .u64 (sb r 1 b), .int .u64 (sb r 2 c)] ∧ Below w.heap.size w w2 ∧ Blk w2 (w.heap.size + 1) 70 #[.int .u64 0, .int .u64 0, .int .u64 0]) ?_ ?_
  · exact ⟨Blk.new_at _ _ _ (by simp), (((Below.refl _ _).alloc (Nat.le_refl _) _).alloc (by simp) _).alloc (by simp [Nat.add_assoc]) _, (Blk.new_at _ _ _ (by simp)).alloc _⟩
  rintro w2 ⟨hB1, hb2, hB2⟩
  obtain ⟨⟨c0, c1, c2⟩, f0, f1, f2⟩ := hB1.facts3
  have HB1 := Lib.hid hB1
  have HB2 := Lib.hid hB2
  have HBe := Lib.hid hb2
  clear hB1 hB2 hb2
  go_quiet ((first | (go_at_call 63; exact quiet_eq (refAdd_i _ _ _))))
  go_wp2_with fail
  refine wp_loop_rounds 4 ?_
  rw [rounds_succ]
  go_wp2_with fail
  refine (refAdd_i (sb r 0 a) (rall r a b c) _).mono ?_; rintro e w' ⟨rfl, rfl⟩
  go_wp2_with fail
  rw [rounds_succ]
  go_wp2_with fail
  refine (refAdd_i (sb r 1 b) (rall r a b c) _).mono ?_; rintro e w' ⟨rfl, rfl⟩
  go_wp2_with fail
  rw [rounds_succ]
  go_wp2_with fail
  refine (refAdd_i (sb r 2 c) (rall r a b c) _).mono ?_; rintro e w' ⟨rfl, rfl⟩
  go_wp2_with fail
  obtain ⟨⟨d0, d1, d2⟩, g0, g1, g2⟩ := HB2.out.facts3
  rw [rounds_succ]
  go_wp2_with fail
  refine bodyPost_ret (v := .agg #[.int .u64 (fadd (sb r 0 a) (rall r a b c)), .int .u64 (fadd (sb r 1 b) (rall r a b c)), .int .u64 (fadd (sb r 2 c) (rall r a b c))]) (by simp [results, Try.results71, go_sem, d0, d1, d2]) rfl ⟨rfl, ?_⟩
  refine Below.setCell (Below.setCell (Below.setCell (Below.setCell (Below.setCell (Below.setCell (below_drewN HBe.out _) (by first | omega | (simp; done) | (simp; omega)) _) (by first | omega | (simp; done) | (simp; omega)) _) (by first | omega | (simp; done) | (simp; omega)) _) (by first | omega | (simp; done) | (simp; omega)) _) (by first | omega | (simp; done) | (simp; omega)) _) (by first | omega | (simp; done) | (simp; omega)) _

set_option maxHeartbeats 1000000 in
theorem refMix_any (a b c : Int) [IsU a] [IsU b] [IsU c] (w : World) :
    Calls Try.prog 64 #[.agg #[.int .u64 a, .int .u64 b, .int .u64 c]] w fun e w' =>
      e = .returned (.agg #[.int .u64 (hmix (a, b, c)).1, .int .u64 (hmix (a, b, c)).2.1, .int .u64 (hmix (a, b, c)).2.2]) ∧ Below w.heap.size w w' := by
  have HU := Lib.hid (mixTo_u (a, b, c) ⟨⟨IsU.lo, IsU.hi⟩, ⟨IsU.lo, IsU.hi⟩, ⟨IsU.lo, IsU.hi⟩⟩)
  go_enter Try.func64, Try.ntmps64
  go_wp2_with fail
  go_loopw [3] (fun i wr => ∃ k : Nat, k ≤ 8 ∧ i = .int .i64 k ∧ Blk wr w.heap.size 70 #[.int .u64 (mixTo (a, b, c) k).1, .int .u64 (mixTo (a, b, c) k).2.1, .int .u64 (mixTo (a, b, c) k).2.2] ∧ Blk wr (w.heap.size + 1) 70 #[.int .u64 0, .int .u64 0, .int .u64 0] ∧ Below w.heap.size w wr) (fun i _ => 8 - (intOf i).toNat)
  case atStart =>
    exact ⟨0, by omega, rfl, (Blk.new_at _ _ _ rfl).alloc _, Blk.new_at _ _ _ (by first | omega | (simp; done) | (simp; omega)), ((Below.refl _ _).alloc (Nat.le_refl _) _).alloc (by first | omega | (simp; done) | (simp; omega)) _⟩
  case round =>
    obtain ⟨k, hk, rfl, hB1, hB2, hb⟩ := hrel
    obtain ⟨⟨c0, c1, c2⟩, f0, f1, f2⟩ := hB1.facts3
    have H1 := Lib.hid hB1
    have H2 := Lib.hid hB2
    have HB := Lib.hid hb
    have hz := hB2.lt
    clear hB1 hB2 hb
    by_cases hlt : k < 8
    · haveI := IsU.of (HU.out k).1
      haveI := IsU.of (HU.out k).2.1
      haveI := IsU.of (HU.out k).2.2
      go_wp2_with fail
      refine Calls.mono (refround_any k hlt _ _ _ _) ?_
      rintro e w1 ⟨rfl, hb⟩
      have B1 := H1.out.below hb (by first | omega | (simp; done) | (simp; omega))
      have B2 := H2.out.below hb (by first | omega | (simp; done) | (simp; omega))
      have HB1 := Lib.hid (HB.out.trans (hb.mono HB.out.size))
      clear hb c0 c1 c2 f0 f1 f2
      obtain ⟨⟨c0, c1, c2⟩, f0, f1, f2⟩ := B1.facts3
      have K1 := Lib.hid B1
      have K2 := Lib.hid B2
      clear B1 B2
      go_wp2_with fail
      go_roundw
      case rel => exact ⟨k + 1, by omega, by go_num, K1.out.set3, ((K2.out.other (by first | omega | (simp; done) | (simp; omega)) _).other (by first | omega | (simp; done) | (simp; omega)) _).other (by first | omega | (simp; done) | (simp; omega)) _, ((HB1.out.setCell (by first | omega | (simp; done) | (simp; omega)) _).setCell (by first | omega | (simp; done) | (simp; omega)) _).setCell (by first | omega | (simp; done) | (simp; omega)) _⟩
      case measure => simp [intOf]; omega
    · obtain rfl : k = 8 := by omega
      have g := H2.out.facts3
      obtain ⟨⟨d0, d1, d2⟩, g0, g1, g2⟩ := g
      go_wp2_with fail
      refine bodyPost_ret (v := .agg #[.int .u64 (mixTo (a, b, c) 8).1, .int .u64 (mixTo (a, b, c) 8).2.1, .int .u64 (mixTo (a, b, c) 8).2.2]) (by simp [results, Try.results64, go_sem, d0, d1, d2]) rfl ⟨rfl, ?_⟩
      exact ((HB.out.setCell (by first | omega | (simp; done) | (simp; omega)) _).setCell (by first | omega | (simp; done) | (simp; omega)) _).setCell (by first | omega | (simp; done) | (simp; omega)) _
end Go.Proofs.Ytippfhlljlfcnaa

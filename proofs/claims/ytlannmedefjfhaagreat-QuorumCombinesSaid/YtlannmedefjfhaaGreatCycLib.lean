/- Several texts of one kind, one behind the other: CycA, CycB, CycC, CycD, CycE. -/
import Derived.Test.YtlannmedefjfhaaGreatHashLib4
import Derived.Test.YtlannmedefjfhaaGreatPlain
/- Contracts of package cyclic's numbers of a modulus: rest, sum, difference, product. -/
namespace Go.Proofs.YtlannmedefjfhaaGreat
open Go.ChangeShapes Go.WideShapes Go.ChangeAt Go.RowKit Gs
set_option linter.unusedVariables false

theorem Dr.below {w w' : World} (h : Dr w w') (B : Nat) : Below B w w' := by
  obtain ⟨n, rfl⟩ := h
  exact below_drewN (Below.refl B w) n
theorem below_on {w0 w w' : World} (h : Below w0.heap.size w0 w) (k : Below w.heap.size w w') : Below w0.heap.size w0 w' := h.trans (k.mono h.size)

theorem IsU.mod (x m : Int) (m0 : 0 < m) (m1 : m < 18446744073709551616) : IsU (x % m) := ⟨Int.emod_nonneg _ (by omega), by have := Int.emod_lt_of_pos x m0; omega⟩

theorem rest_any (m a : Int) (m0 : 0 < m) (a0 : 0 ≤ a) (a1 : a < 18446744073709551616) (w : World) :
    Calls Tryz.prog 120 #[.int .u64 m, .int .u64 a] w fun e w' => e = .returned (.int .u64 (a % m)) ∧ w = w' := by
  have hz : (m == 0) = false := beq_eq_false_iff_ne.2 (by omega)
  go_enter Tryz.func120, Tryz.ntmps120
  go_wp2_with fail
  go_ret
  exact ⟨rfl, rfl⟩

theorem sum_any (m a b : Int) (m0 : 0 < m) (m1 : m < 4611686018427387904) (a0 : 0 ≤ a) (a1 : a < 18446744073709551616) (b0 : 0 ≤ b) (b1 : b < 18446744073709551616) (w : World) :
    Calls Tryz.prog 75 #[.int .u64 m, .int .u64 a, .int .u64 b] w fun e w' => e = .returned (.int .u64 ((a + b) % m)) ∧ w = w' := by
  have ha := IsU.mod a m m0 (by omega)
  have la := Int.emod_lt_of_pos a m0
  have lb := Int.emod_lt_of_pos b m0
  have na := Int.emod_nonneg a (show m ≠ 0 by omega)
  have nb := Int.emod_nonneg b (show m ≠ 0 by omega)
  have HE := Lib.hid (show (a % m + b % m) % m = (a + b) % m from (Int.add_emod a b m).symm)
  have RA := Lib.hid (rest_any m a m0 a0 a1)
  have RB := Lib.hid (rest_any m b m0 b0 b1)
  have RC := Lib.hid (rest_any m (a % m + b % m) m0 (by omega) (by omega))
  rw [HE.out] at RC
  have e2 : IntKind.u64.wrap (a % m + b % m) = a % m + b % m := IntWalk.u64_in _ (by omega)
  generalize a % m = x at *
  generalize b % m = y at *
  generalize (a + b) % m = z at *
  clear HE
  go_enter Tryz.func75, Tryz.ntmps75
  go_wp2_with fail
  refine (RA.out _).mono ?_; rintro e w' ⟨rfl, rfl⟩
  go_wp2_with fail
  refine (RB.out _).mono ?_; rintro e w' ⟨rfl, rfl⟩
  go_wp2_with fail
  refine (RC.out _).mono ?_; rintro e w' ⟨rfl, rfl⟩
  go_wp2_with fail
  go_ret
  exact ⟨rfl, rfl⟩

theorem difference_any (m a b : Int) (m0 : 0 < m) (m1 : m < 4611686018427387904) (a0 : 0 ≤ a) (a1 : a < 18446744073709551616) (b0 : 0 ≤ b) (b1 : b < 18446744073709551616) (w : World) :
    Calls Tryz.prog 157 #[.int .u64 m, .int .u64 a, .int .u64 b] w fun e w' => e = .returned (.int .u64 ((a - b) % m)) ∧ w = w' := by
  have la := Int.emod_lt_of_pos a m0
  have lb := Int.emod_lt_of_pos b m0
  have na := Int.emod_nonneg a (show m ≠ 0 by omega)
  have nb := Int.emod_nonneg b (show m ≠ 0 by omega)
  have HE := Lib.hid (show (a % m + m - b % m) % m = (a - b) % m from by
    rw [show a % m + m - b % m = a % m - b % m + m by omega, Int.add_emod_right, ← Int.sub_emod])
  have RA := Lib.hid (rest_any m a m0 a0 a1)
  have RB := Lib.hid (rest_any m b m0 b0 b1)
  have RC := Lib.hid (rest_any m (a % m + m - b % m) m0 (by omega) (by omega))
  rw [HE.out] at RC
  have e2 : IntKind.u64.wrap (a % m + m) = a % m + m := IntWalk.u64_in _ (by omega)
  have e3 : IntKind.u64.wrap (a % m + m - b % m) = a % m + m - b % m := IntWalk.u64_in _ (by omega)
  generalize a % m = x at *
  generalize b % m = y at *
  generalize (a - b) % m = z at *
  clear HE
  go_enter Tryz.func157, Tryz.ntmps157
  go_wp2_with fail
  refine (RA.out _).mono ?_; rintro e w' ⟨rfl, rfl⟩
  go_wp2_with fail
  refine (RB.out _).mono ?_; rintro e w' ⟨rfl, rfl⟩
  go_wp2_with fail
  refine (RC.out _).mono ?_; rintro e w' ⟨rfl, rfl⟩
  go_wp2_with fail
  go_ret
  exact ⟨rfl, rfl⟩

theorem product_any (m a b : Int) (m0 : 0 < m) (m1 : m < 18446744073709551616) (a0 : 0 ≤ a) (a1 : a < 18446744073709551616) (b0 : 0 ≤ b) (b1 : b < 18446744073709551616) (w : World) :
    Calls Tryz.prog 108 #[.int .u64 m, .int .u64 a, .int .u64 b] w fun e w' => e = .returned (.int .u64 (a * b % m)) ∧ Dr w w' := by
  have p0 := Int.mul_nonneg a0 b0
  have p1 : a * b ≤ 18446744073709551615 * 18446744073709551615 := Int.mul_le_mul (by omega) (by omega) b0 (by omega)
  have M := Lib.hid (Mul64_any a b a0 a1 b0 b1)
  generalize a * b = p at *
  have hR := Rem64_any (p / 18446744073709551616) (p % 18446744073709551616) m (by omega) (by omega) (by omega) (by omega) m0 m1
  rw [show p / 18446744073709551616 * 18446744073709551616 + p % 18446744073709551616 = p by omega] at hR
  have R := Lib.hid hR
  clear hR
  go_enter Tryz.func108, Tryz.ntmps108
  go_wp2_with fail
  refine (M.out _).mono ?_; rintro e w' ⟨rfl, rfl⟩
  go_wp2_with fail
  refine (R.out _).mono ?_
  rintro e w' ⟨rfl, hd⟩
  have D := Lib.hid hd
  clear hd
  go_wp2_with fail
  go_ret
  exact ⟨rfl, D.out⟩
end Go.Proofs.YtlannmedefjfhaaGreat

/- The bits of an exponent, by a function that yields them; a power by any modulus. -/
namespace Go.Proofs.YtlannmedefjfhaaGreat
open Go.ChangeShapes Go.WideShapes Go.ChangeAt Go.RowKit Go.Shelf Gs
set_option linter.unusedVariables false
attribute [local go_sem] Oper.semAt_some

set_option maxRecDepth 100000 in
set_option maxHeartbeats 1000000 in
theorem bits_in (n : Nat) (hn : 1 ≤ n) (l Bn : Nat) (x : Int) (x0 : 0 ≤ x) (x1 : x < 18446744073709551616) (J Jx : List Bool → World → Prop)
    (hY : ∀ pre b W, J pre W → pre.length < 64 → YieldAt Fence.wide (n - 1) Tryz.prog l #[.bool b] W fun e W' =>
      (e = .returned (.bool true) ∧ J (pre ++ [b]) W' ∧ True) ∨ (e = .returned (.bool false) ∧ Jx (pre ++ [b]) W'))
    (W : World) (hBn : W.cell? ⟨Bn, 0, none⟩ = some (.int .u64 x)) (h0 : J [] W) :
    CallsIn Fence.wide n Tryz.prog 156 #[.func (.yield l) #[] #[], .pointer (some ⟨Bn, 0, none⟩)] W fun e W' => (∃ v, e = .returned v) ∧
      ((∃ ys, (bval ys : Int) = x ∧ J ys W') ∨ (∃ pre, True ∧ Jx pre W')) := by
  have HY := Lib.hid hY
  clear hY
  refine callsIn_of_wp Tryz.func156 rfl trivial ?_ rfl
  simp only [Tryz.ntmps156, List.size_toArray, List.length_cons, List.length_nil, Nat.reduceAdd, Nat.reduceSub, Array.replicate_succ, Array.replicate_zero, List.push_toArray, List.append_toArray, List.nil_append, List.cons_append]
  gi_wp2
  gi_loopw [3] (fun i wr => ∃ (r : Int) (pre : List Bool), 0 ≤ r ∧ r < 18446744073709551616 ∧ i = .int .u64 r ∧ J pre wr ∧ Hid (BitsTo x pre r))
    (fun i _ => (intOf i).toNat)
  case atStart => exact ⟨x, [], x0, x1, rfl, h0, Lib.hid (BitsTo.start x)⟩
  case round =>
    obtain ⟨r, pre, r0, r1, rfl, hJs, HT⟩ := hrel
    by_cases hz : 0 < r
    · have hb : ∃ b : Bool, r % 2 = (b.toNat : Int) ∧ (bits .and .u64 r 1 == 1) = b := by
        have := and_1 r r0 r1
        by_cases h : r % 2 = 1
        · exact ⟨true, by simp; exact h, by rw [this, h]; rfl⟩
        · exact ⟨false, by simp; omega, by rw [this, show r % 2 = 0 by omega]; rfl⟩
      obtain ⟨b, hb1, hb2⟩ := hb
      obtain ⟨fn, tmps, assign, body, hy, hR⟩ := HY.out pre b wr hJs (HT.out.short hz x1)
      have HR := Lib.hid hR
      have HB := Lib.hid hb1
      clear hR hb1 hJs
      gi_wp2_with fail
      refine HR.out.mono ?_
      rintro e W3 (⟨rfl, hJ3, _⟩ | ⟨rfl, hJx3⟩)
      · gi_wp2
        go_roundw
        case rel => exact ⟨r / 2, _, by omega, by omega, rfl, hJ3, Lib.hid (HT.out.step HB.out)⟩
        case measure => simp [intOf]; omega
      · gi_wp2
        refine bodyPost_ret (results_none rfl _ _ _) rfl ?_
        exact ⟨⟨_, rfl⟩, .inr ⟨_, trivial, hJx3⟩⟩
    · have HZ := Lib.hid (HT.out.done (by omega))
      gi_wp2
      go_end0
      exact ⟨⟨_, rfl⟩, .inl ⟨_, HZ.out, hJs⟩⟩

theorem bits_stops (n : Nat) (hn : 1 ≤ n) (Bn : Nat) (x : Int) (x0 : 0 ≤ x) (x1 : x < 18446744073709551616) (w : World) (hB : Bn < w.heap.size) (hc : w.cell? ⟨Bn, 0, none⟩ = some (.int .u64 x)) :
    SeqStopsK Fence.wide n Tryz.prog 156 #[.pointer (some ⟨Bn, 0, none⟩)] (fun b : Bool => #[Value.bool b]) (fun _ _ => True) (fun ys => (bval ys : Int) = x) (fun _ => True) 64 w := fun l J Jx W hW _ _ hY h0 =>
  bits_in n hn l Bn x x0 x1 J Jx hY W ((hW.cell (p := ⟨Bn, 0, none⟩) hB).trans hc) h0

set_option maxHeartbeats 1000000 in
theorem bitsOf_in (n : Nat) (x : Int) (w : World) :
    CallsIn Fence.wide n Tryz.prog 143 #[.int .u64 x] w fun e w' => e = .returned (.func (.func 156) #[] #[.pointer (some ⟨w.heap.size, 0, none⟩)]) ∧ w' = w.alloc (.cells #[.int .u64 x] 23) := by
  refine callsIn_of_wp Tryz.func143 rfl trivial ?_ rfl
  simp only [Tryz.ntmps143, List.size_toArray, List.length_cons, List.length_nil, Nat.reduceAdd, Nat.reduceSub, Array.replicate_succ, Array.replicate_zero, List.push_toArray, List.append_toArray, List.nil_append, List.cons_append]
  gi_wp2
  go_ret
  exact ⟨rfl, rfl⟩
end Go.Proofs.YtlannmedefjfhaaGreat

/- A power by any modulus: what is squared and multiplied, bit by bit. -/
namespace Go.Proofs.YtlannmedefjfhaaGreat
open Go.ChangeShapes Go.WideShapes Go.ChangeAt Go.RowKit Go.Shelf Gs
set_option linter.unusedVariables false
attribute [local go_sem] Oper.semAt_some

set_option maxRecDepth 100000 in
set_option maxHeartbeats 2000000 in
theorem power_any (m a x : Int) (m0 : 1 < m) (m1 : m < 18446744073709551616) (a0 : 0 ≤ a) (a1 : a < 18446744073709551616) (x0 : 0 ≤ x) (x1 : x < 18446744073709551616) (w : World) :
    Calls Tryz.prog 117 #[.func (.func 108) #[.int .u64 m] #[], .int .u64 a, .int .u64 x] w fun e w' => e = .returned (.int .u64 (mpow m a x.toNat)) ∧ Below w.heap.size w w' := by
  refine (callsIn_wide (n := 6)).1 ?_
  refine callsIn_of_wp_marks Tryz.func117 rfl trivial ?_ rfl
  simp only [Tryz.ntmps117, List.size_toArray, List.length_cons, List.length_nil, Nat.reduceAdd, Nat.reduceSub, Array.replicate_succ, Array.replicate_zero, List.push_toArray, List.append_toArray, List.nil_append, List.cons_append]
  gi_wp2_with fail
  refine ⟨trivial, ?_⟩
  refine (bitsOf_in _ _ _).mono ?_
  rintro e w4 ⟨rfl, rfl⟩
  gi_wp2_with fail
  refine wpIn_named (fun W => (Blk W (w.heap.size + 1 + 1) 23 #[.int .u64 (mpow m a (bval []))] ∧ Blk W (w.heap.size + 1) 23 #[.int .u64 (msq m a 0)] ∧ Blk W w.heap.size 54 #[.func (.func 108) #[.int .u64 m] #[]] ∧ w.heap.size + 1 + 1 + 1 < W.heap.size) ∧ Below w.heap.size w W ∧ Blk W (w.heap.size + 1 + 1 + 1) 23 #[.int .u64 x]) ?_ ?_
  · rw [show mpow m a (bval []) = 1 from mpow_zero m a m0, show msq m a 0 = a from if_pos rfl]
    refine ⟨⟨(Blk.new_at _ _ _ (by simp)).alloc _, ((Blk.new_at _ _ _ (by simp)).alloc _).alloc _, (((Blk.new_at _ _ _ rfl).alloc _).alloc _).alloc _, by simp⟩, ?_, Blk.new_at _ _ _ (by simp)⟩
    exact ((((Below.refl _ _).alloc (Nat.le_refl _) _).alloc (by simp) _).alloc (by simp; omega) _).alloc (by simp; omega) _
  rintro W4 ⟨⟨b2, b1, b0, hz⟩, hB, b3⟩
  generalize hs1 : w.heap.size + 1 = s1 at b2 b1 b3 hz ⊢
  generalize hs2 : s1 + 1 = s2 at b2 b3 hz ⊢
  generalize hs3 : s2 + 1 = s3 at b3 hz ⊢
  have HP := Lib.hid (fun n => mpow_bound m a n (by omega))
  have HQ := Lib.hid (fun k => msq_bound m a k (by omega) m1 a0 a1)
  refine wpIn_rangeFunc_ownG rfl (by omega) (gf := 156) (lb := #[.pointer (some ⟨s3, 0, none⟩)]) rfl trivial (enters_of Tryz.func156 (by kernel_rfl) rfl)
    (bits_stops _ (by omega) s3 x x0 x1 _ hz (b3.cell 0)) (fun h k => trivial) (fun W i o o' h1 h2 h3 h4 => trivial) (Below.refl _ _) (fun _ => rfl)
    (fun pre W => (Blk W s2 23 #[.int .u64 (mpow m a (bval pre))] ∧ Blk W s1 23 #[.int .u64 (msq m a pre.length)] ∧ Blk W w.heap.size 54 #[.func (.func 108) #[.int .u64 m] #[]] ∧ s3 < W.heap.size) ∧ Below w.heap.size w W)
    (fun _ _ _ => False) ?_ (fun _ _ _ _ _ hs _ _ => hs) ⟨⟨b2, b1, b0, hz⟩, hB⟩ ?_ ?_ ?_ ?_ ?_
  rotate_left 1
  rotate_left 1
  · intro i y W K hK
    gi_wp2
    exact hK
  · rintro i pre b W ⟨⟨k2, k1, k0, kz⟩, kB⟩ hlt
    obtain ⟨c2, f2⟩ := k2.facts1
    obtain ⟨c1, f1⟩ := k1.facts1
    obtain ⟨c0, f0⟩ := k0.facts1
    have hp := HP.out (bval pre)
    have hq := HQ.out pre.length
    have HI := Lib.hid (And.intro k2 (And.intro k1 (And.intro k0 kB)))
    clear k2 k1 k0 kB
    have PA := Lib.hid (product_any m _ _ (by omega) m1 hq.1 hq.2 hq.1 hq.2)
    have ES := Lib.hid (msq_step m a pre.length)
    cases b
    · have EP := Lib.hid (mpow_skip m a pre false rfl)
      gi_wp2_with fail
      refine ⟨trivial, ?_⟩
      refine (CallsIn.inRound i (callsIn_wide.2 (PA.out _))).mono ?_
      rintro e w5 ⟨rfl, hd⟩
      have hb5 := hd.below W.heap.size
      have HJ := Lib.hid (And.intro (HI.out.1.below hb5 HI.out.1.lt) (And.intro (HI.out.2.1.below hb5 HI.out.2.1.lt) (And.intro (HI.out.2.2.1.below hb5 HI.out.2.2.1.lt) (And.intro (HI.out.2.2.2.trans (hb5.mono HI.out.2.2.2.size)) hb5))))
      clear hb5 hd c0 f0 c1 f1 c2 f2
      obtain ⟨c1, f1⟩ := HJ.out.2.1.facts1
      gi_wp2_with fail
      rw [ES.out]
      refine ⟨((keeps_below HJ.out.2.2.2.2).trans (KeepsOthers.setCell _ _ _)).from _, trivial, ⟨?_, ?_, ?_, ?_⟩, ?_⟩
      · rw [← EP.out]; exact HJ.out.1.other (by simp; omega) _
      · rw [List.length_append]; exact HJ.out.2.1.set1
      · exact HJ.out.2.2.1.other (by simp; omega) _
      · have := HJ.out.2.2.2.2.size; simp [World.setCell]; omega
      · exact HJ.out.2.2.2.1.setCell (by simp; omega) _
    · have EP := Lib.hid (mpow_step m a pre true rfl)
      have PB := Lib.hid (product_any m _ _ (by omega) m1 hp.1 (by omega) hq.1 hq.2)
      gi_wp2_with fail
      refine ⟨trivial, ?_⟩
      refine (CallsIn.inRound i (callsIn_wide.2 (PB.out _))).mono ?_
      rintro e w5 ⟨rfl, hd⟩
      have hb5 := hd.below W.heap.size
      have HJ := Lib.hid (And.intro (HI.out.1.below hb5 HI.out.1.lt) (And.intro (HI.out.2.1.below hb5 HI.out.2.1.lt) (And.intro (HI.out.2.2.1.below hb5 HI.out.2.2.1.lt) (And.intro (HI.out.2.2.2.trans (hb5.mono HI.out.2.2.2.size)) hb5))))
      clear hb5 hd c0 f0 c1 f1 c2 f2
      rw [EP.out]
      obtain ⟨c2, f2⟩ := HJ.out.1.facts1
      obtain ⟨c1, f1⟩ := HJ.out.2.1.facts1
      obtain ⟨c0, f0⟩ := HJ.out.2.2.1.facts1
      gi_wp2_with fail
      refine ⟨trivial, ?_⟩
      refine callsIn_named (fun W6 => Blk W6 s2 23 #[.int .u64 (mpow m a (bval (pre ++ [true])))] ∧ Blk W6 s1 23 #[.int .u64 (msq m a pre.length)] ∧ Blk W6 w.heap.size 54 #[.func (.func 108) #[.int .u64 m] #[]] ∧ Below w.heap.size w W6 ∧ KeepsOthers W W6 ∧ W.heap.size ≤ W6.heap.size) ?_ ?_
      · exact ⟨HJ.out.1.set1, HJ.out.2.1.other (by simp; omega) _, HJ.out.2.2.1.other (by simp; omega) _, HJ.out.2.2.2.1.setCell (by simp; omega) _, (keeps_below HJ.out.2.2.2.2).trans (KeepsOthers.setCell _ _ _), by have := HJ.out.2.2.2.2.size; simp [World.setCell]; omega⟩
      clear c0 f0 c1 f1 c2 f2 HJ
      rintro W6 ⟨l2, l1, l0, lB, lO, lz⟩
      have HJ := Lib.hid (And.intro l2 (And.intro l1 (And.intro l0 (And.intro lB (And.intro lO lz)))))
      clear l2 l1 l0 lB lO
      refine (CallsIn.inRound i (callsIn_wide.2 (PA.out _))).mono ?_
      rintro e w7 ⟨rfl, hd⟩
      have hb7 := hd.below W6.heap.size
      have HM := Lib.hid (And.intro (HJ.out.1.below hb7 HJ.out.1.lt) (And.intro (HJ.out.2.1.below hb7 HJ.out.2.1.lt) (And.intro (HJ.out.2.2.1.below hb7 HJ.out.2.2.1.lt) (And.intro (HJ.out.2.2.2.1.trans (hb7.mono HJ.out.2.2.2.1.size)) (And.intro (HJ.out.2.2.2.2.1.trans (keeps_below hb7)) hb7.size)))))
      clear hb7 hd
      obtain ⟨c1, f1⟩ := HM.out.2.1.facts1
      gi_wp2_with fail
      rw [ES.out]
      refine ⟨(HM.out.2.2.2.2.1.trans (KeepsOthers.setCell _ _ _)).from _, trivial, ⟨?_, ?_, ?_, ?_⟩, ?_⟩
      · exact HM.out.1.other (by simp; omega) _
      · rw [List.length_append]; exact HM.out.2.1.set1
      · exact HM.out.2.2.1.other (by simp; omega) _
      · have := HM.out.2.2.2.2.2; simp [World.setCell]; omega
      · exact HM.out.2.2.2.1.setCell (by simp; omega) _
  · rintro D ys W hD hys ⟨⟨k2, k1, k0, kz⟩, kB⟩ hK
    obtain ⟨c2, f2⟩ := k2.facts1
    have HY := Lib.hid (show bval ys = x.toNat by omega)
    have HB := Lib.hid kB
    clear k2 k1 k0 kB hys
    gi_wp2
    refine ⟨by simp, .inl ⟨_, _, rfl, run_takeDeferred hK, ?_⟩⟩
    refine ⟨_, results_tmp rfl _ _ _, ?_, ?_⟩
    · rw [HY.out]; rfl
    · exact HB.out.trans (belowK_b (w := w) (Nat.le_refl _) W D _ _ (by omega) hK rfl rfl)
  · rintro D c pre W _ _ h _
    exact h.elim
  · exact OwnFrom.and (OwnFrom.and (Own.from (blk_own _ _ _) _) (OwnFrom.and (Own.from (blk_own _ _ (fun pre : List Bool => #[Value.int .u64 (msq m a pre.length)])) _) (OwnFrom.and (Own.from (blk_own _ _ (fun _ => #[Value.func (.func 108) #[.int .u64 m] #[]])) _) (fun _ _ _ _ hs hg _ => Nat.lt_of_lt_of_le hs hg.size)))) (ownFrom_below (Nat.le_refl _) (by omega))
end Go.Proofs.YtlannmedefjfhaaGreat

/- Contracts of package cyclic's functions: all that it hands out. -/
namespace Go.Proofs.YtlannmedefjfhaaGreat
open Go.ChangeShapes Go.WideShapes Go.ChangeAt Go.RowKit Gs
set_option linter.unusedVariables false

theorem IsU.below {a m : Int} (h : 0 ≤ a ∧ a < m) (hm : m ≤ 18446744073709551616) : IsU a := ⟨h.1, by omega⟩
instance (a b : Int) : IsU (qmul a b) := IsU.below (qmul_bound a b) (by omega)
instance (a b : Int) : IsU (qpow a b) := IsU.below (qpow_bound a b) (by omega)
instance (a : Int) : IsU (qinv a) := IsU.below (qinv_bound a) (by omega)
instance (a b : Int) : IsU (radd a b) := IsU.below (radd_bound a b) (by omega)
instance (a b : Int) : IsU (rsub a b) := IsU.below (rsub_bound a b) (by omega)
instance (a b : Int) : IsU (rmul a b) := IsU.below (rmul_bound a b) (by omega)
instance (a : Int) : IsU (rinv a) := IsU.below (rinv_bound a) (by omega)

theorem Mul_q (a b : Int) [ha : IsU a] [hb : IsU b] (w : World) :
    Calls Tryz.prog 72 #[.int .u64 a, .int .u64 b] w fun e w' => e = .returned (.int .u64 (qmul a b)) ∧ Below w.heap.size w w' := by
  have P := Lib.hid (product_any 2305843009213691579 a b (by omega) (by omega) ha.1 ha.2 hb.1 hb.2)
  rw [show a * b % 2305843009213691579 = qmul a b from rfl] at P
  go_enter Tryz.func72, Tryz.ntmps72
  go_wp2_with fail
  refine (P.out _).mono ?_
  rintro e w' ⟨rfl, hd⟩
  have D := Lib.hid hd
  clear hd
  go_wp2_with fail
  go_ret
  exact ⟨rfl, D.out.below _⟩

theorem MulR_r (a b : Int) [ha : IsU a] [hb : IsU b] (w : World) :
    Calls Tryz.prog 56 #[.int .u64 a, .int .u64 b] w fun e w' => e = .returned (.int .u64 (rmul a b)) ∧ Below w.heap.size w w' := by
  have P := Lib.hid (product_any 1152921504606845789 a b (by omega) (by omega) ha.1 ha.2 hb.1 hb.2)
  rw [show a * b % 1152921504606845789 = rmul a b from rfl] at P
  go_enter Tryz.func56, Tryz.ntmps56
  go_wp2_with fail
  refine (P.out _).mono ?_
  rintro e w' ⟨rfl, hd⟩
  have D := Lib.hid hd
  clear hd
  go_wp2_with fail
  go_ret
  exact ⟨rfl, D.out.below _⟩

theorem AddR_r (a b : Int) [ha : IsU a] [hb : IsU b] (w : World) :
    Calls Tryz.prog 30 #[.int .u64 a, .int .u64 b] w fun e w' => e = .returned (.int .u64 (radd a b)) ∧ w = w' := by
  have P := Lib.hid (sum_any 1152921504606845789 a b (by omega) (by omega) ha.1 ha.2 hb.1 hb.2)
  rw [show (a + b) % 1152921504606845789 = radd a b from rfl] at P
  go_enter Tryz.func30, Tryz.ntmps30
  go_wp2_with fail
  refine (P.out _).mono ?_
  rintro e w' ⟨rfl, rfl⟩
  go_wp2_with fail
  go_ret
  exact ⟨rfl, rfl⟩

theorem SubR_r (a b : Int) [ha : IsU a] [hb : IsU b] (w : World) :
    Calls Tryz.prog 144 #[.int .u64 a, .int .u64 b] w fun e w' => e = .returned (.int .u64 (rsub a b)) ∧ w = w' := by
  have P := Lib.hid (difference_any 1152921504606845789 a b (by omega) (by omega) ha.1 ha.2 hb.1 hb.2)
  rw [show (a - b) % 1152921504606845789 = rsub a b from rfl] at P
  go_enter Tryz.func144, Tryz.ntmps144
  go_wp2_with fail
  refine (P.out _).mono ?_
  rintro e w' ⟨rfl, rfl⟩
  go_wp2_with fail
  go_ret
  exact ⟨rfl, rfl⟩

theorem Pow_q (a n : Int) [ha : IsU a] [hb : IsU n] (w : World) :
    Calls Tryz.prog 73 #[.int .u64 a, .int .u64 n] w fun e w' => e = .returned (.int .u64 (qpow a n)) ∧ Below w.heap.size w w' := by
  have P := Lib.hid (power_any 2305843009213691579 a n (by omega) (by omega) ha.1 ha.2 hb.1 hb.2)
  rw [show mpow 2305843009213691579 a n.toNat = qpow a n from rfl] at P
  go_enter Tryz.func73, Tryz.ntmps73
  go_wp2_with fail
  refine (P.out _).mono ?_
  rintro e w' ⟨rfl, hd⟩
  have D := Lib.hid hd
  clear hd
  go_wp2_with fail
  go_ret
  exact ⟨rfl, D.out⟩

theorem Base_q (n : Int) [hb : IsU n] (w : World) :
    Calls Tryz.prog 34 #[.int .u64 n] w fun e w' => e = .returned (.int .u64 (qpow 4 n)) ∧ Below w.heap.size w w' := by
  haveI : IsU 4 := ⟨by omega, by omega⟩
  have P := Lib.hid (Pow_q 4 n)
  go_enter Tryz.func34, Tryz.ntmps34
  go_wp2_with fail
  refine (P.out _).mono ?_
  rintro e w' ⟨rfl, hd⟩
  have D := Lib.hid hd
  clear hd
  go_wp2_with fail
  go_ret
  exact ⟨rfl, D.out⟩

theorem inverse_zero (m a : Int) (m0 : 1 < m) (m1 : m < 18446744073709551616) (ha : 0 ≤ a) (ha1 : a < 18446744073709551616) (hz : a % m = 0) (w : World) :
    Calls Tryz.prog 145 #[.int .u64 m, .int .u64 a] w fun e w' => e = .returned (.tuple #[.int .u64 0, .int .i64 10]) ∧ Below w.heap.size w w' := by
  have R := Lib.hid (rest_any m a (by omega) ha ha1)
  rw [hz] at R
  clear hz
  go_enter Tryz.func145, Tryz.ntmps145
  go_wp2_with fail
  refine (R.out _).mono ?_
  rintro e w' ⟨rfl, rfl⟩
  go_wp2_with fail
  go_ret2
  exact ⟨rfl, Below.refl _ _⟩

theorem inverse_ok (m a : Int) (m0 : 1 < m) (m1 : m < 18446744073709551616) (ha : 0 ≤ a) (ha1 : a < 18446744073709551616) (hz : a % m ≠ 0) (w : World) :
    Calls Tryz.prog 145 #[.int .u64 m, .int .u64 a] w fun e w' => e = .returned (.tuple #[.int .u64 (mpow m a (m - 2).toNat), .int .i64 0]) ∧ Below w.heap.size w w' := by
  have R := Lib.hid (rest_any m a (by omega) ha ha1)
  have hz' : (a % m == 0) = false := beq_eq_false_iff_ne.2 hz
  have e2 : IntKind.u64.wrap (m - 2) = m - 2 := IntWalk.u64_in _ (by omega)
  have P := Lib.hid (power_any m a (m - 2) m0 m1 ha ha1 (by omega) (by omega))
  generalize mpow m a (m - 2).toNat = v at *
  generalize a % m = r at *
  clear hz
  go_enter Tryz.func145, Tryz.ntmps145
  go_wp2_with fail
  refine (R.out _).mono ?_
  rintro e w' ⟨rfl, rfl⟩
  go_wp2_with fail
  refine (P.out _).mono ?_
  rintro e w' ⟨rfl, hd⟩
  have D := Lib.hid hd
  clear hd
  go_wp2_with fail
  go_ret2
  exact ⟨rfl, D.out⟩

theorem InvR_r (a : Int) [ha : IsU a] (w : World) :
    Calls Tryz.prog 128 #[.int .u64 a] w fun e w' => e = .returned (.tuple #[.int .u64 (rinv a), .int .i64 (rerr a)]) ∧ Below w.heap.size w w' := by
  have P : ∀ w, Calls Tryz.prog 145 #[.int .u64 1152921504606845789, .int .u64 a] w fun e w' => e = .returned (.tuple #[.int .u64 (rinv a), .int .i64 (rerr a)]) ∧ Below w.heap.size w w' := fun w => by
    unfold rinv rerr
    by_cases h : a % 1152921504606845789 = 0
    · rw [if_pos h, if_pos h]; exact inverse_zero _ a (by omega) (by omega) ha.1 ha.2 h w
    · rw [if_neg h, if_neg h]; exact inverse_ok 1152921504606845789 a (by omega) (by omega) ha.1 ha.2 h w
  have HP := Lib.hid P
  clear P
  go_enter Tryz.func128, Tryz.ntmps128
  go_wp2_with fail
  refine (HP.out _).mono ?_
  rintro e w' ⟨rfl, hd⟩
  have D := Lib.hid hd
  clear hd
  go_wp2_with fail
  go_ret2
  exact ⟨rfl, D.out⟩

theorem In_q (x : Int) [hx : IsU x] (w : World) :
    Calls Tryz.prog 71 #[.int .u64 x] w fun e w' => e = .returned (.bool (qin x)) ∧ Below w.heap.size w w' := by
  haveI : IsU 1152921504606845789 := ⟨by omega, by omega⟩
  have P := Lib.hid (Pow_q x 1152921504606845789)
  unfold qin
  by_cases h1 : 1 ≤ x
  · by_cases h2 : x < 2305843009213691579
    · rw [decide_eq_true h1, decide_eq_true h2]
      generalize qpow x 1152921504606845789 = v at *
      go_enter Tryz.func71, Tryz.ntmps71
      go_wp2_with fail
      refine (P.out _).mono ?_
      rintro e w' ⟨rfl, hd⟩
      have D := Lib.hid hd
      clear hd
      go_wp2_with fail
      go_ret
      exact ⟨by simp, D.out⟩
    · rw [decide_eq_true h1, decide_eq_false h2]
      clear P
      go_enter Tryz.func71, Tryz.ntmps71
      go_wp2_with fail
      go_ret
      exact ⟨by simp, Below.refl _ _⟩
  · rw [decide_eq_false h1]
    clear P
    go_enter Tryz.func71, Tryz.ntmps71
    go_wp2_with fail
    go_ret
    exact ⟨by simp, Below.refl _ _⟩
end Go.Proofs.YtlannmedefjfhaaGreat

/- Contracts of the document's own numbers: a sum, a product, a power modulo m. -/
namespace Go.Proofs.YtlannmedefjfhaaGreat
open Go.ChangeShapes Go.WideShapes Go.ChangeAt Go.RowKit Gs
set_option linter.unusedVariables false

theorem ref_sum (a b m : Int) (a0 : 0 ≤ a) (a1 : a < m) (b0 : 0 ≤ b) (b1 : b < m) (m1 : m < 18446744073709551616) (w : World) :
    Calls Tryz.prog 112 #[.int .u64 a, .int .u64 b, .int .u64 m] w fun e w' => e = .returned (.int .u64 ((a + b) % m)) ∧ w = w' := by
  by_cases h : m - b ≤ a
  · have e : (a + b) % m = a - (m - b) := by
      rw [show a + b = (a - (m - b)) + m by omega, Int.add_emod_right]
      exact Int.emod_eq_of_lt (by omega) (by omega)
    rw [e]
    go_enter Tryz.func112, Tryz.ntmps112
    go_wp2_with fail
    go_ret
    exact ⟨rfl, rfl⟩
  · have e : (a + b) % m = a + b := Int.emod_eq_of_lt (by omega) (by omega)
    rw [e]
    go_enter Tryz.func112, Tryz.ntmps112
    go_wp2_with fail
    go_ret
    exact ⟨rfl, rfl⟩

set_option maxHeartbeats 1000000 in
theorem ref_times (a b m : Int) (a0 : 0 ≤ a) (a1 : a < 18446744073709551616) (b0 : 0 ≤ b) (b1 : b < 18446744073709551616) (m0 : 0 < m) (m1 : m < 18446744073709551616) (w : World) :
    Calls Tryz.prog 111 #[.int .u64 a, .int .u64 b, .int .u64 m] w fun e w' => e = .returned (.int .u64 (a * b % m)) ∧ w = w' := by
  have hz : (m == 0) = false := beq_eq_false_iff_ne.2 (by omega)
  have HA := Lib.hid (times_all a b m)
  have la := Int.emod_lt_of_pos a m0
  have lb := Int.emod_lt_of_pos b m0
  have na := Int.emod_nonneg a (show m ≠ 0 by omega)
  have nb := Int.emod_nonneg b (show m ≠ 0 by omega)
  have HM0 := Lib.hid (fun z => Int.emod_nonneg z (show m ≠ 0 by omega))
  have HM1 := Lib.hid (fun z => Int.emod_lt_of_pos z m0)
  have HT := Lib.hid (top_zero nb (by omega))
  go_enter Tryz.func111, Tryz.ntmps111
  go_wp2_with fail
  generalize a % m = x at *
  generalize b % m = y at *
  go_loop [7, 8] (fun o i => ∃ (j : Nat) (z : Int), j ≤ 64 ∧ i = .int .i64 ((j : Int) - 1) ∧ o = .int .u64 z ∧ Hid (z = x * (y / 2 ^ j) % m) ∧ 0 ≤ z ∧ z < m) (fun _ i => (intOf i + 1).toNat)
  case atStart => exact ⟨64, 0, by omega, rfl, rfl, by rw [HT.out, Int.mul_zero, Int.zero_emod]; exact Lib.hid rfl, by omega, by omega⟩
  case round =>
    obtain ⟨j, z, hj, rfl, rfl, HZ, z0, z1⟩ := hrel
    cases j with
    | zero =>
      have HE := Lib.hid (show z = a * b % m by rw [HZ.out, low_all, HA.out])
      go_wp2_with fail
      go_ret
      exact ⟨ret_u64 HE.out, rfl⟩
    | succ k =>
      have hb := and_1 (y / 2 ^ k) (Int.ediv_nonneg nb (Int.le_of_lt (Int.pow_pos (by omega)))) (by have := Int.ediv_le_self (2 ^ k) nb; omega)
      rw [show ((k + 1 : Nat) : Int) - 1 = (k : Int) by omega]
      have ho : y / 2 ^ k % 2 = 0 ∨ y / 2 ^ k % 2 = 1 := by omega
      have hz0 := HM0.out (z + z)
      have hz1 := HM1.out (z + z)
      have S := Lib.hid (ref_sum z z m z0 z1 z0 z1 m1)
      rcases ho with ho | ho
      · have HE := Lib.hid (show (z + z) % m = x * (y / 2 ^ k) % m by rw [HZ.out]; exact times_even ho)
        rw [ho] at hb
        clear ho
        generalize (z + z) % m = z2 at *
        go_wp2_with fail
        refine (S.out _).mono ?_; rintro e w' ⟨rfl, rfl⟩
        go_wp2_with fail
        go_round
        case rel => exact ⟨k, z2, by omega, by go_num, rfl, HE, hz0, hz1⟩
        case measure => simp [intOf]
      · have HE := Lib.hid (show ((z + z) % m + x) % m = x * (y / 2 ^ k) % m by rw [HZ.out]; exact times_odd ho)
        rw [ho] at hb
        clear ho
        generalize (z + z) % m = z2 at *
        go_wp2_with fail
        refine (S.out _).mono ?_; rintro e w' ⟨rfl, rfl⟩
        go_wp2_with fail
        refine (ref_sum z2 x m hz0 hz1 na la m1 _).mono ?_; rintro e w' ⟨rfl, rfl⟩
        go_wp2_with fail
        go_round
        case rel => exact ⟨k, _, by omega, by go_num, rfl, HE, HM0.out _, HM1.out _⟩
        case measure => simp [intOf]

set_option maxHeartbeats 1000000 in
theorem ref_power (a n m : Int) (a0 : 0 ≤ a) (a1 : a < 18446744073709551616) (n0 : 0 ≤ n) (n1 : n < 18446744073709551616) (m0 : 1 < m) (m1 : m < 18446744073709551616) (w : World) :
    Calls Tryz.prog 99 #[.int .u64 a, .int .u64 n, .int .u64 m] w fun e w' => e = .returned (.int .u64 (mpow m a n.toNat)) ∧ w = w' := by
  have HB := Lib.hid (fun k => mpow_bound m a k (by omega))
  have HT := Lib.hid (show n.toNat / 2 ^ 64 = 0 from Nat.div_eq_of_lt (by omega))
  have H0 := Lib.hid (mpow_zero m a m0)
  go_enter Tryz.func99, Tryz.ntmps99
  go_wp2_with fail
  go_loop [7, 8] (fun o i => ∃ (j : Nat) (z : Int), j ≤ 64 ∧ i = .int .i64 ((j : Int) - 1) ∧ o = .int .u64 z ∧ Hid (z = mpow m a (n.toNat / 2 ^ j))) (fun _ i => (intOf i + 1).toNat)
  case atStart => exact ⟨64, 1, by omega, rfl, rfl, by rw [HT.out, H0.out]; exact Lib.hid rfl⟩
  case round =>
    obtain ⟨j, z, hj, rfl, rfl, HZ⟩ := hrel
    cases j with
    | zero =>
      have HE := Lib.hid (show z = mpow m a n.toNat by rw [HZ.out, Nat.pow_zero, Nat.div_one])
      go_wp2_with fail
      go_ret
      exact ⟨ret_u64 HE.out, rfl⟩
    | succ k =>
      have hb := and_1 (n / 2 ^ k) (Int.ediv_nonneg n0 (Int.le_of_lt (Int.pow_pos (by omega)))) (by have := Int.ediv_le_self (2 ^ k) n0; omega)
      rw [bit_toNat n n0 k] at hb
      rw [show ((k + 1 : Nat) : Int) - 1 = (k : Int) by omega]
      have ho : n.toNat / 2 ^ k % 2 = 0 ∨ n.toNat / 2 ^ k % 2 = 1 := by omega
      have hz : 0 ≤ z ∧ z < m := by rw [HZ.out]; exact HB.out _
      have hz2 : 0 ≤ z * z % m ∧ z * z % m < m := ⟨Int.emod_nonneg _ (by omega), Int.emod_lt_of_pos _ (by omega)⟩
      have S := Lib.hid (ref_times z z m hz.1 (by omega) hz.1 (by omega) (by omega) m1)
      rcases ho with ho | ho
      · have HE := Lib.hid (show z * z % m = mpow m a (n.toNat / 2 ^ k) by rw [HZ.out]; exact power_even ho)
        rw [ho] at hb
        clear ho
        generalize z * z % m = z2 at *
        go_wp2_with fail
        refine (S.out _).mono ?_; rintro e w' ⟨rfl, rfl⟩
        go_wp2_with fail
        go_round
        case rel => exact ⟨k, z2, by omega, by go_num, rfl, HE⟩
        case measure => simp [intOf]
      · have HE := Lib.hid (show z * z % m * a % m = mpow m a (n.toNat / 2 ^ k) by rw [HZ.out]; exact power_odd ho)
        rw [ho] at hb
        clear ho
        generalize z * z % m = z2 at *
        go_wp2_with fail
        refine (S.out _).mono ?_; rintro e w' ⟨rfl, rfl⟩
        go_wp2_with fail
        refine (ref_times z2 a m hz2.1 (by omega) a0 a1 (by omega) m1 _).mono ?_; rintro e w' ⟨rfl, rfl⟩
        go_wp2_with fail
        go_round
        case rel => exact ⟨k, _, by omega, by go_num, rfl, HE⟩
        case measure => simp [intOf]

theorem ref_Mul (a b : Int) [ha : IsU a] [hb : IsU b] (w : World) :
    Calls Tryz.prog 65 #[.int .u64 a, .int .u64 b] w fun e w' => e = .returned (.int .u64 (qmul a b)) ∧ w = w' := by
  have P := Lib.hid (ref_times a b 2305843009213691579 ha.1 ha.2 hb.1 hb.2 (by omega) (by omega))
  rw [show a * b % 2305843009213691579 = qmul a b from rfl] at P
  go_enter Tryz.func65, Tryz.ntmps65
  go_wp2_with fail
  refine (P.out _).mono ?_; rintro e w' ⟨rfl, rfl⟩
  go_wp2_with fail
  go_ret
  exact ⟨rfl, rfl⟩

theorem ref_MulR (a b : Int) [ha : IsU a] [hb : IsU b] (w : World) :
    Calls Tryz.prog 61 #[.int .u64 a, .int .u64 b] w fun e w' => e = .returned (.int .u64 (rmul a b)) ∧ w = w' := by
  have P := Lib.hid (ref_times a b 1152921504606845789 ha.1 ha.2 hb.1 hb.2 (by omega) (by omega))
  rw [show a * b % 1152921504606845789 = rmul a b from rfl] at P
  go_enter Tryz.func61, Tryz.ntmps61
  go_wp2_with fail
  refine (P.out _).mono ?_; rintro e w' ⟨rfl, rfl⟩
  go_wp2_with fail
  go_ret
  exact ⟨rfl, rfl⟩

theorem ref_Pow (a n : Int) [ha : IsU a] [hb : IsU n] (w : World) :
    Calls Tryz.prog 66 #[.int .u64 a, .int .u64 n] w fun e w' => e = .returned (.int .u64 (qpow a n)) ∧ w = w' := by
  have P := Lib.hid (ref_power a n 2305843009213691579 ha.1 ha.2 hb.1 hb.2 (by omega) (by omega))
  rw [show mpow 2305843009213691579 a n.toNat = qpow a n from rfl] at P
  go_enter Tryz.func66, Tryz.ntmps66
  go_wp2_with fail
  refine (P.out _).mono ?_; rintro e w' ⟨rfl, rfl⟩
  go_wp2_with fail
  go_ret
  exact ⟨rfl, rfl⟩

theorem ref_Base (n : Int) [hb : IsU n] (w : World) :
    Calls Tryz.prog 50 #[.int .u64 n] w fun e w' => e = .returned (.int .u64 (qpow 4 n)) ∧ w = w' := by
  have P := Lib.hid (ref_power 4 n 2305843009213691579 (by omega) (by omega) hb.1 hb.2 (by omega) (by omega))
  rw [show mpow 2305843009213691579 4 n.toNat = qpow 4 n from rfl] at P
  go_enter Tryz.func50, Tryz.ntmps50
  go_wp2_with fail
  refine (P.out _).mono ?_; rintro e w' ⟨rfl, rfl⟩
  go_wp2_with fail
  go_ret
  exact ⟨rfl, rfl⟩

theorem ref_InvR (a : Int) [ha : IsU a] (w : World) :
    Calls Tryz.prog 134 #[.int .u64 a] w fun e w' => e = .returned (.tuple #[.int .u64 (rinv a), .int .i64 (rerr a)]) ∧ w = w' := by
  have a0 := ha.1
  have a1 := ha.2
  unfold rinv rerr
  by_cases h : a % 1152921504606845789 = 0
  · rw [if_pos h, if_pos h]
    have h' : (a % 1152921504606845789 == 0) = true := beq_iff_eq.2 h
    clear h
    go_enter Tryz.func134, Tryz.ntmps134
    go_wp2_with fail
    go_ret2
    exact ⟨rfl, rfl⟩
  · rw [if_neg h, if_neg h]
    have h' : (a % 1152921504606845789 == 0) = false := beq_eq_false_iff_ne.2 h
    clear h
    have P := Lib.hid (ref_power a 1152921504606845787 1152921504606845789 ha.1 ha.2 (by omega) (by omega) (by omega) (by omega))
    generalize mpow 1152921504606845789 a (1152921504606845787 : Int).toNat = v at *
    go_enter Tryz.func134, Tryz.ntmps134
    go_wp2_with fail
    refine (P.out _).mono ?_; rintro e w' ⟨rfl, rfl⟩
    go_wp2_with fail
    go_ret2
    exact ⟨rfl, rfl⟩

theorem ref_AddR (a b : Int) [ha : IsU a] [hb : IsU b] (w : World) :
    Calls Tryz.prog 63 #[.int .u64 a, .int .u64 b] w fun e w' => e = .returned (.int .u64 (radd a b)) ∧ w = w' := by
  have a0 := ha.1
  have a1 := ha.2
  have b0 := hb.1
  have b1 := hb.2
  have P := Lib.hid (ref_sum (a % 1152921504606845789) (b % 1152921504606845789) 1152921504606845789 (by omega) (by omega) (by omega) (by omega) (by omega))
  rw [show (a % 1152921504606845789 + b % 1152921504606845789) % 1152921504606845789 = radd a b from (Int.add_emod _ _ _).symm] at P
  go_enter Tryz.func63, Tryz.ntmps63
  go_wp2_with fail
  refine (P.out _).mono ?_; rintro e w' ⟨rfl, rfl⟩
  go_wp2_with fail
  go_ret
  exact ⟨rfl, rfl⟩

theorem ref_SubR (a b : Int) [ha : IsU a] [hb : IsU b] (w : World) :
    Calls Tryz.prog 135 #[.int .u64 a, .int .u64 b] w fun e w' => e = .returned (.int .u64 (rsub a b)) ∧ w = w' := by
  have a0 := ha.1
  have a1 := ha.2
  have b0 := hb.1
  have b1 := hb.2
  have hxy : ∃ x y z : Int, a % 1152921504606845789 = x ∧ b % 1152921504606845789 = y ∧ (1152921504606845789 - y) % 1152921504606845789 = z ∧ 0 ≤ x ∧ x < 1152921504606845789 ∧ 0 ≤ y ∧ y < 1152921504606845789 ∧ 0 ≤ z ∧ z < 1152921504606845789 ∧ (x + z) % 1152921504606845789 = rsub a b := ⟨_, _, _, rfl, rfl, rfl, by omega, by omega, by omega, by omega, by omega, by omega, by unfold rsub; omega⟩
  obtain ⟨x, y, z, hx, hy, hz, x0, x1, y0, y1, z0, z1, hr⟩ := hxy
  have P := Lib.hid (ref_sum x z 1152921504606845789 x0 x1 z0 z1 (by omega))
  rw [hr] at P
  clear hr
  generalize rsub a b = r at *
  have e1 : IntKind.u64.wrap (1152921504606845789 - y) = 1152921504606845789 - y := IntWalk.u64_in _ (by omega)
  go_enter Tryz.func135, Tryz.ntmps135
  go_wp2_with fail
  trace_state
  refine (P.out _).mono ?_; rintro e w' ⟨rfl, rfl⟩
  go_wp2_with fail
  go_ret
  exact ⟨rfl, rfl⟩

theorem ref_In (x : Int) [hx : IsU x] (w : World) :
    Calls Tryz.prog 45 #[.int .u64 x] w fun e w' => e = .returned (.bool (qin x)) ∧ w = w' := by
  unfold qin
  by_cases h1 : 1 ≤ x
  · by_cases h2 : x < 2305843009213691579
    · have P := Lib.hid (ref_power x 1152921504606845789 2305843009213691579 hx.1 hx.2 (by omega) (by omega) (by omega) (by omega))
      rw [show mpow 2305843009213691579 x (1152921504606845789 : Int).toNat = qpow x 1152921504606845789 from rfl] at P
      rw [decide_eq_true h1, decide_eq_true h2]
      generalize qpow x 1152921504606845789 = v at *
      go_enter Tryz.func45, Tryz.ntmps45
      go_wp2_with fail
      refine (P.out _).mono ?_; rintro e w' ⟨rfl, rfl⟩
      go_wp2_with fail
      go_ret
      exact ⟨by simp, rfl⟩
    · rw [decide_eq_true h1, decide_eq_false h2]
      go_enter Tryz.func45, Tryz.ntmps45
      go_wp2_with fail
      go_ret
      exact ⟨by simp, rfl⟩
  · rw [decide_eq_false h1]
    go_enter Tryz.func45, Tryz.ntmps45
    go_wp2_with fail
    go_ret
    exact ⟨by simp, rfl⟩
end Go.Proofs.YtlannmedefjfhaaGreat

/- A power by any modulus: what is squared and multiplied, bit by bit. -/
import Derived.Test.YtippfhlljlfcnaaCycB
namespace Go.Proofs.Ytippfhlljlfcnaa
open Go.ChangeShapes Go.WideShapes Go.ChangeAt Go.RowKit Go.Shelf Gs
set_option linter.unusedVariables false
attribute [local go_sem] Oper.semAt_some

set_option maxRecDepth 100000 in
set_option maxHeartbeats 2000000 in
theorem power_any (m a x : Int) (m0 : 1 < m) (m1 : m < 18446744073709551616) (a0 : 0 ≤ a) (a1 : a < 18446744073709551616) (x0 : 0 ≤ x) (x1 : x < 18446744073709551616) (w : World) :
    Calls Try.prog 47 #[.func (.func 46) #[.int .u64 m] #[], .int .u64 a, .int .u64 x] w fun e w' => e = .returned (.int .u64 (mpow m a x.toNat)) ∧ Below w.heap.size w w' := by
  refine (callsIn_wide (n := 6)).1 ?_
  refine callsIn_of_wp_marks Try.func47 rfl trivial ?_ rfl
  simp only [Try.ntmps47, List.size_toArray, List.length_cons, List.length_nil, Nat.reduceAdd, Nat.reduceSub, Array.replicate_succ, Array.replicate_zero, List.push_toArray, List.append_toArray, List.nil_append, List.cons_append]
  gi_wp2_with fail
  refine ⟨trivial, ?_⟩
  refine (bitsOf_in _ _ _).mono ?_
  rintro e w4 ⟨rfl, rfl⟩
  gi_wp2_with fail
  refine wpIn_named (fun W => (Blk W (w.heap.size + 1 + 1) 23 #[.int .u64 (mpow m a (bval []))] ∧ Blk W (w.heap.size + 1) 23 #[.int .u64 (msq m a 0)] ∧ Blk W w.heap.size 42 #[.func (.func 46) #[.int .u64 m] #[]] ∧ w.heap.size + 1 + 1 + 1 < W.heap.size) ∧ Below w.heap.size w W ∧ Blk W (w.heap.size + 1 + 1 + 1) 23 #[.int .u64 x]) ?_ ?_
  · rw [show mpow m a (bval []) = 1 from mpow_zero m a m0, show msq m a 0 = a from if_pos rfl]
    refine ⟨⟨(Blk.new_at _ _ _ (by simp)).alloc _, ((Blk.new_at _ _ _ (by simp)).alloc _).alloc _, (((Blk.new_at _ _ _ rfl).alloc _).alloc _).alloc _, by simp⟩, ?_, Blk.new_at _ _ _ (by simp)⟩
    exact ((((Below.refl _ _).alloc (Nat.le_refl _) _).alloc (by simp) _).alloc (by simp; omega) _).alloc (by simp; omega) _
  rintro W4 ⟨⟨b2, b1, b0, hz⟩, hB, b3⟩
  generalize hs1 : w.heap.size + 1 = s1 at b2 b1 b3 hz ⊢
  generalize hs2 : s1 + 1 = s2 at b2 b3 hz ⊢
  generalize hs3 : s2 + 1 = s3 at b3 hz ⊢
  have HP := Lib.hid (fun n => mpow_bound m a n (by omega))
  have HQ := Lib.hid (fun k => msq_bound m a k (by omega) m1 a0 a1)
  refine wpIn_rangeFunc_ownG rfl (by omega) (gf := 70) (lb := #[.pointer (some ⟨s3, 0, none⟩)]) rfl trivial (enters_of Try.func70 (by kernel_rfl) rfl)
    (bits_stops _ (by omega) s3 x x0 x1 _ hz (b3.cell 0)) (fun h k => trivial) (fun W i o o' h1 h2 h3 h4 => trivial) (Below.refl _ _) (fun _ => rfl)
    (fun pre W => (Blk W s2 23 #[.int .u64 (mpow m a (bval pre))] ∧ Blk W s1 23 #[.int .u64 (msq m a pre.length)] ∧ Blk W w.heap.size 42 #[.func (.func 46) #[.int .u64 m] #[]] ∧ s3 < W.heap.size) ∧ Below w.heap.size w W)
    (fun _ _ _ => False) ?_ (fun _ _ _ _ _ hs _ _ => hs) ⟨⟨b2, b1, b0, hz⟩, hB⟩ ?_ ?_ ?_ ?_ ?_
  rotate_left 1
  rotate_left 1
  · intro i y W K hK
    gi_wp2
    exact hK
  · rintro i pre b W ⟨⟨k2, k1, k0, kz⟩, kB⟩ hlt
    obtain ⟨c2, f2⟩ := k2.facts1
    obtain ⟨c1, f1⟩ := k1.facts1
    obtain ⟨c0, f0⟩ := k0.facts1
    have hp := HP.out (bval pre)
    have hq := HQ.out pre.length
    have HI := Lib.hid (And.intro k2 (And.intro k1 (And.intro k0 kB)))
    clear k2 k1 k0 kB
    have PA := Lib.hid (product_any m _ _ (by omega) m1 hq.1 hq.2 hq.1 hq.2)
    have ES := Lib.hid (msq_step m a pre.length)
    cases b
    · have EP := Lib.hid (mpow_skip m a pre false rfl)
      gi_wp2_with fail
      refine ⟨trivial, ?_⟩
      refine (CallsIn.inRound i (callsIn_wide.2 (PA.out _))).mono ?_
      rintro e w5 ⟨rfl, hd⟩
      have hb5 := hd.below W.heap.size
      have HJ := Lib.hid (And.intro (HI.out.1.below hb5 HI.out.1.lt) (And.intro (HI.out.2.1.below hb5 HI.out.2.1.lt) (And.intro (HI.out.2.2.1.below hb5 HI.out.2.2.1.lt) (And.intro (HI.out.2.2.2.trans (hb5.mono HI.out.2.2.2.size)) hb5))))
      clear hb5 hd c0 f0 c1 f1 c2 f2
      obtain ⟨c1, f1⟩ := HJ.out.2.1.facts1
      gi_wp2_with fail
      rw [ES.out]
      refine ⟨((keeps_below HJ.out.2.2.2.2).trans (KeepsOthers.setCell _ _ _)).from _, trivial, ⟨?_, ?_, ?_, ?_⟩, ?_⟩
      · rw [← EP.out]; exact HJ.out.1.other (by simp; omega) _
      · rw [List.length_append]; exact HJ.out.2.1.set1
      · exact HJ.out.2.2.1.other (by simp; omega) _
      · have := HJ.out.2.2.2.2.size; simp [World.setCell]; omega
      · exact HJ.out.2.2.2.1.setCell (by simp; omega) _
    · have EP := Lib.hid (mpow_step m a pre true rfl)
      have PB := Lib.hid (product_any m _ _ (by omega) m1 hp.1 (by omega) hq.1 hq.2)
      gi_wp2_with fail
      refine ⟨trivial, ?_⟩
      refine (CallsIn.inRound i (callsIn_wide.2 (PB.out _))).mono ?_
      rintro e w5 ⟨rfl, hd⟩
      have hb5 := hd.below W.heap.size
      have HJ := Lib.hid (And.intro (HI.out.1.below hb5 HI.out.1.lt) (And.intro (HI.out.2.1.below hb5 HI.out.2.1.lt) (And.intro (HI.out.2.2.1.below hb5 HI.out.2.2.1.lt) (And.intro (HI.out.2.2.2.trans (hb5.mono HI.out.2.2.2.size)) hb5))))
      clear hb5 hd c0 f0 c1 f1 c2 f2
      rw [EP.out]
      obtain ⟨c2, f2⟩ := HJ.out.1.facts1
      obtain ⟨c1, f1⟩ := HJ.out.2.1.facts1
      obtain ⟨c0, f0⟩ := HJ.out.2.2.1.facts1
      gi_wp2_with fail
      refine ⟨trivial, ?_⟩
      refine callsIn_named (fun W6 => Blk W6 s2 23 #[.int .u64 (mpow m a (bval (pre ++ [true])))] ∧ Blk W6 s1 23 #[.int .u64 (msq m a pre.length)] ∧ Blk W6 w.heap.size 42 #[.func (.func 46) #[.int .u64 m] #[]] ∧ Below w.heap.size w W6 ∧ KeepsOthers W W6 ∧ W.heap.size ≤ W6.heap.size) ?_ ?_
      · exact ⟨HJ.out.1.set1, HJ.out.2.1.other (by simp; omega) _, HJ.out.2.2.1.other (by simp; omega) _, HJ.out.2.2.2.1.setCell (by simp; omega) _, (keeps_below HJ.out.2.2.2.2).trans (KeepsOthers.setCell _ _ _), by have := HJ.out.2.2.2.2.size; simp [World.setCell]; omega⟩
      clear c0 f0 c1 f1 c2 f2 HJ
      rintro W6 ⟨l2, l1, l0, lB, lO, lz⟩
      have HJ := Lib.hid (And.intro l2 (And.intro l1 (And.intro l0 (And.intro lB (And.intro lO lz)))))
      clear l2 l1 l0 lB lO
      refine (CallsIn.inRound i (callsIn_wide.2 (PA.out _))).mono ?_
      rintro e w7 ⟨rfl, hd⟩
      have hb7 := hd.below W6.heap.size
      have HM := Lib.hid (And.intro (HJ.out.1.below hb7 HJ.out.1.lt) (And.intro (HJ.out.2.1.below hb7 HJ.out.2.1.lt) (And.intro (HJ.out.2.2.1.below hb7 HJ.out.2.2.1.lt) (And.intro (HJ.out.2.2.2.1.trans (hb7.mono HJ.out.2.2.2.1.size)) (And.intro (HJ.out.2.2.2.2.1.trans (keeps_below hb7)) hb7.size)))))
      clear hb7 hd
      obtain ⟨c1, f1⟩ := HM.out.2.1.facts1
      gi_wp2_with fail
      rw [ES.out]
      refine ⟨(HM.out.2.2.2.2.1.trans (KeepsOthers.setCell _ _ _)).from _, trivial, ⟨?_, ?_, ?_, ?_⟩, ?_⟩
      · exact HM.out.1.other (by simp; omega) _
      · rw [List.length_append]; exact HM.out.2.1.set1
      · exact HM.out.2.2.1.other (by simp; omega) _
      · have := HM.out.2.2.2.2.2; simp [World.setCell]; omega
      · exact HM.out.2.2.2.1.setCell (by simp; omega) _
  · rintro D ys W hD hys ⟨⟨k2, k1, k0, kz⟩, kB⟩ hK
    obtain ⟨c2, f2⟩ := k2.facts1
    have HY := Lib.hid (show bval ys = x.toNat by omega)
    have HB := Lib.hid kB
    clear k2 k1 k0 kB hys
    gi_wp2
    refine ⟨by simp, .inl ⟨_, _, rfl, run_takeDeferred hK, ?_⟩⟩
    refine ⟨_, results_tmp rfl _ _ _, ?_, ?_⟩
    · rw [HY.out]; rfl
    · exact HB.out.trans (belowK_b (w := w) (Nat.le_refl _) W D _ _ (by omega) hK rfl rfl)
  · rintro D c pre W _ _ h _
    exact h.elim
  · exact OwnFrom.and (OwnFrom.and (Own.from (blk_own _ _ _) _) (OwnFrom.and (Own.from (blk_own _ _ (fun pre : List Bool => #[Value.int .u64 (msq m a pre.length)])) _) (OwnFrom.and (Own.from (blk_own _ _ (fun _ => #[Value.func (.func 46) #[.int .u64 m] #[]])) _) (fun _ _ _ _ hs hg _ => Nat.lt_of_lt_of_le hs hg.size)))) (ownFrom_below (Nat.le_refl _) (by omega))
end Go.Proofs.Ytippfhlljlfcnaa

/- The walk of the law FieldPolys. -/
import Derived.Test.YthdcimbdahjjbaaFieldD
import Derived.StillTailTactics
namespace Go.Proofs.Ythdcimbdahjjbaa
open Go.ChangeShapes Go.WideShapes Go.ChangeAt Go.RowKit Gs
set_option linter.unusedVariables false

set_option maxRecDepth 100000 in
set_option maxHeartbeats 2000000 in
theorem polys_walk (A A' : Option Addr) (c c' : Nat) (xs ys : List Int) (z x : Int) [IsU z] [IsU x] (w : World) (hs : SI w w.heap.size .u64 A xs) (hs' : SI w w.heap.size .u64 A' ys)
    (hc : xs.length ≤ c) (hcm : c ≤ maxLen) (hc' : ys.length ≤ c') (hcm' : c' ≤ maxLen) (hx : ∀ n ∈ xs, (Lit.int .u64 n).wf = true) (hy : ∀ n ∈ ys, (Lit.int .u64 n).wf = true)
    (h1 : xs.length ≤ 60) (h2 : ys.length ≤ 60) :
    Calls Try.prog 11 #[.slice A xs.length c, .slice A' ys.length c', .int .u64 z, .int .u64 x] w fun e w' => e = .returned (.bool true) ∧ Below w.heap.size w w' := by
  have HS := Lib.hid hs
  have HS' := Lib.hid hs'
  have HX := Lib.hid (fun n hn => u64_wf (hx n hn))
  have HY := Lib.hid (fun n hn => u64_wf (hy n hn))
  have z0 : 0 ≤ z := IsU.lo
  unfold maxLen at hcm hcm'
  clear hs hs' hx hy
  obtain ⟨i0, hi, hz0, hz1, hz2⟩ := info_parts Try.info22
  have HI := Lib.hid (And.intro hi (And.intro hz0 (And.intro hz1 hz2)))
  clear hi hz0 hz1 hz2
  obtain ⟨m, hm⟩ : ∃ m, max xs.length ys.length = m := ⟨_, rfl⟩
  have hm1 : xs.length ≤ m := by omega
  have hm2 : ys.length ≤ m := by omega
  have hm3 : m ≤ 60 := by omega
  have HM4 := Lib.hid (show m ≤ xs.length ∨ m ≤ ys.length by omega)
  have HM := Lib.hid hm
  clear hm
  go_enter Try.func11, Try.ntmps11
  go_wp2_with fail
  refine (live_any _).mono ?_
  rintro e w1 ⟨rfl, hb1⟩
  have HB1 := Lib.hid hb1
  clear hb1
  go_wp2_with (at_make; refine wpList_make_full _ rfl _ _ 30 rfl w.heap.size 22 i0 (.int .u64 0) 1 Try.underlying30 HI.out.1 HI.out.2.1 HI.out.2.2.1 _ _ _ _ m rfl rfl (by have := HM4.out; omega) (by have := HM4.out; omega) (by rw [HI.out.2.2.2]; omega) (by unfold maxLen; omega) HB1.out.size ?_; intro w3 hown3 hgrow3; have HO3 := Lib.hid (own_made hown3); have HB3 := Lib.hid (HB1.out.grown hgrow3 HB1.out.size (by simp)); clear hown3 hgrow3)
  all_goals
    go_loopw [10, 11] (fun t i wr => ∃ k : Nat, k ≤ m ∧ i = .int .i64 k ∧ t = .int .u64 (fred (isum (xs.take k))) ∧ OwnU wr w.heap.size (.slice (some ⟨w1.heap.size, 0, none⟩) m m) (psTo xs ys k) ∧ Below w.heap.size w wr) (fun _ i _ => m - (intOf i).toNat)
    case atStart => exact ⟨0, by omega, rfl, rfl, by rw [psTo_zero, HM.out]; exact HO3.out, HB3.out⟩
    case round =>
      obtain ⟨j, hj, rfl, rfl, hown, hbw⟩ := hrel
      have HO := Lib.hid hown
      have HB := Lib.hid hbw
      have HL := Lib.hid (psTo_length xs ys j (by rw [HM.out]; exact hj))
      clear hown hbw
      by_cases hlt : j < m
      · obtain ⟨y0, hc1, hy0, hf1, hwg⟩ := own_at HO.out (by rw [HL.out, HM.out]) j hlt
        rw [psTo_at xs ys j (by rw [HM.out]; exact hlt)] at hy0
        cases hy0
        by_cases hp : j < xs.length
        · obtain ⟨ad, rfl, had, hcell⟩ := (HS.out.below HB.out) j hp
          rw [List.getElem?_eq_getElem hp] at hcell
          simp only [Option.getD_some] at hcell
          have ix : IsU xs[j] := ⟨(HX.out _ (List.getElem_mem hp)).1, (HX.out _ (List.getElem_mem hp)).2⟩
          have ea := fred_isum xs j hp
          have EA := Lib.hid ea
          clear ea
          have bj := isU_fred (isum (xs.take j))
          have ho1 : (wr.setCell ⟨w1.heap.size, j, none⟩ (.int .u64 (fadd 0 xs[j]))).cell? (ad.add j) = some (.int .u64 xs[j]) := cell_far hcell (show _ ≠ w1.heap.size from block_add_ne (by omega))
          have ho3 : (wr.setCell ⟨w1.heap.size, j, none⟩ (.int .u64 (fadd 0 xs[j]))).cell? ⟨w1.heap.size, j, none⟩ = some (.int .u64 (fadd 0 xs[j])) := cell_near hc1
          have HOs := Lib.hid (own_set HO.out (by rw [HL.out, HM.out]) j (fadd 0 xs[j]))
          have HBs := Lib.hid (HB.out.setCell (p := ⟨w1.heap.size, j, none⟩) hwg (.int .u64 (fadd 0 xs[j])))
          go_wp2_with fail
          go_still_tail 12, (by kernel_rfl)
          still_call (Add_s _ _ _)
          repeat still_step
          refine wpStill_nil ?_
          change wpList _ _ _ _ _ wr.drew
          by_cases hq : j < ys.length
          · obtain ⟨ad', rfl, had', hcell'⟩ := (HS'.out.below HB.out) j hq
            rw [List.getElem?_eq_getElem hq] at hcell'
            simp only [Option.getD_some] at hcell'
            have iy : IsU ys[j] := ⟨(HY.out _ (List.getElem_mem hq)).1, (HY.out _ (List.getElem_mem hq)).2⟩
            go_wp2_with fail
            obtain ⟨W2, hW2⟩ : ∃ W2, (wr.setCell ⟨w1.heap.size, j, none⟩ (.int .u64 (fadd 0 xs[j]))).drew = W2 := ⟨_, rfl⟩
            have ho2 : W2.cell? (ad'.add j) = some (.int .u64 ys[j]) := by rw [← hW2]; exact cell_far hcell' (show _ ≠ w1.heap.size from block_add_ne (by omega))
            have ho4 : W2.cell? (ad.add j) = some (.int .u64 xs[j]) := by rw [← hW2]; exact ho1
            have ho5 : W2.cell? ⟨w1.heap.size, j, none⟩ = some (.int .u64 (fadd 0 xs[j])) := by rw [← hW2]; exact ho3
            have hf5 : W2.frozen? ⟨w1.heap.size, j, none⟩ = false := by rw [← hW2]; exact (World.frozen?_setCell ..).trans hf1
            have HO2 := Lib.hid (show OwnU W2 w.heap.size (.slice (some ⟨w1.heap.size, 0, none⟩) m m) ((psTo xs ys j).set j (fadd 0 xs[j])) from by rw [← hW2]; exact HOs.out)
            have HB2 := Lib.hid (show Below w.heap.size w W2 from by rw [← hW2]; exact HBs.out.drew)
            have HS2 := Lib.hid (psum_both xs ys j hp hq)
            rw [hW2]
            clear hW2 hc1 hf1 ho1 ho3 hcell hcell'
            refine (Add_i _ _ _).mono ?_; rintro e w' ⟨rfl, rfl⟩
            go_wp2_with fail
            go_still_tail 12, (by kernel_rfl)
            still_call (Add_s _ _ _)
            repeat still_step
            refine wpStill_nil ?_
            change wpList _ _ _ _ _ W2.drew
            go_wp2_with fail
            go_roundw
            case rel => exact ⟨j + 1, by omega, by go_num, congrArg (Value.int .u64) EA.out, by have h := own_set HO2.out (by rw [List.length_set, HL.out, HM.out]) j (fadd (fadd 0 xs[j]) ys[j]); rw [List.set_set, psTo_set xs ys j (by rw [HM.out]; exact hlt) _ HS2.out] at h; exact h, (HB2.out.setCell (p := ⟨w1.heap.size, j, none⟩) hwg _).drew⟩
            case measure => simp [intOf]; omega
          · try (exfalso; omega)
            all_goals
              have HS2 := Lib.hid (psum_left xs ys j hp (by omega))
              go_wp2_with (go_at_call 13; refine (Add_i _ _ _).mono ?_; rintro e w' ⟨rfl, rfl⟩)
              go_roundw
              case rel => exact ⟨j + 1, by omega, by go_num, congrArg (Value.int .u64) EA.out, by have h := HOs.out; rw [psTo_set xs ys j (by rw [HM.out]; exact hlt) _ HS2.out] at h; exact h, HBs.out.drew⟩
              case measure => simp [intOf]; omega
        · have hq : j < ys.length := by have := HM4.out; omega
          obtain ⟨ad', rfl, had', hcell'⟩ := (HS'.out.below HB.out) j hq
          rw [List.getElem?_eq_getElem hq] at hcell'
          simp only [Option.getD_some] at hcell'
          have iy : IsU ys[j] := ⟨(HY.out _ (List.getElem_mem hq)).1, (HY.out _ (List.getElem_mem hq)).2⟩
          have EA := Lib.hid (show xs.take j = xs.take (j + 1) by rw [List.take_of_length_le (by omega), List.take_of_length_le (by omega)])
          have HS2 := Lib.hid (psum_right xs ys j hq (by omega))
          try (exfalso; omega)
          all_goals
            go_wp2_with fail
            go_still_tail 12, (by kernel_rfl)
            still_call (Add_s _ _ _)
            repeat still_step
            refine wpStill_nil ?_
            change wpList _ _ _ _ _ wr.drew
            go_wp2_with fail
            go_roundw
            case rel => exact ⟨j + 1, by omega, by go_num, congrArg (fun l => Value.int .u64 (fred (isum l))) EA.out, by have h := own_set HO.out (by rw [HL.out, HM.out]) j (fadd 0 ys[j]); rw [psTo_set xs ys j (by rw [HM.out]; exact hlt) _ HS2.out] at h; exact h, (HB.out.setCell (p := ⟨w1.heap.size, j, none⟩) hwg _).drew⟩
            case measure => simp [intOf]; omega
      · have hjm : j = m := by omega
        have HJ := Lib.hid hjm
        clear hjm
        have HSx := Lib.hid (HS.out.on HB.out)
        have HSy := Lib.hid (HS'.out.on HB.out)
        have HSs := Lib.hid (by have h := HO.out; rw [HJ.out, ← HM.out, psTo_all] at h; exact own_si h)
        have HLs := Lib.hid (show (psum xs ys).length = m by rw [psum_length]; exact HM.out)
        have HXs := Lib.hid (show ∀ y ∈ psum xs ys, 0 ≤ y ∧ y < 18446744073709551616 from fun y h => (psum_el xs ys y h).u64)
        have HXz := Lib.hid (show ∀ y ∈ z :: xs, 0 ≤ y ∧ y < 18446744073709551616 from fun y h => by
          rcases List.mem_cons.1 h with rfl | h
          · exact ⟨IsU.lo, IsU.hi⟩
          · exact HX.out y h)
        have f1 : (feval x (psum xs ys) == fadd (feval x xs) (feval x ys)) = true := beq_iff_eq.2 (feval_psum x xs ys)
        have f2 : (feval x (z :: xs) == fadd z (fmul x (feval x xs))) = true := beq_iff_eq.2 (feval_cons x z xs)
        have f3 : (feval 0 (z :: xs) == z % 2305843009213693951) = true := beq_iff_eq.2 (feval_zero z xs)
        have f4 : (feval 1 xs == fred (isum (xs.take j))) = true := beq_iff_eq.2 (by rw [feval_one, List.take_of_length_le (by have := HJ.out; omega)])
        have hcx : ∀ w', Below wr.heap.size wr w' → SI w' w'.heap.size .u64 A xs := fun w' h => HSx.out.on h
        have HCx := Lib.hid hcx
        clear hcx
        have HO0 := Lib.hid (own_one wr z (B := wr.heap.size) (Nat.le_refl _) rfl)
        have HB0 := Lib.hid ((Below.refl wr.heap.size wr).alloc (Nat.le_refl _) (.cells #[.int .u64 z] 22))
        go_wp2_with (at_builtin; refine wpList_append_any _ rfl (.tmp 75) (.tmp 76) 30 rfl wr.heap.size 22 i0 (.int .u64 0) 1 8 Try.underlying30 HI.out.1 HI.out.2.1 HI.out.2.2.1 HI.out.2.2.2 rfl (by omega) _ _ _ rfl HO0.out _ A _ c _ rfl (reads_si (HCx.out _ HB0.out)) (one_u64 _) (by unfold maxLen; omega) (by omega) (by simp) ?_; intro v5 w5 hown5 hg5 hat5; have HB5 := Lib.hid (HB0.out.grown hg5 HB0.out.size (own_ge HO0.out)); have HO5 := Lib.hid (own_u (xs := z :: xs) hown5 (by rw [List.length_cons]; omega) rfl); clear hown5 hg5 hat5; obtain ⟨A5, c5, rfl, hl5, hm5, hs5⟩ := own_slice HO5.out; have HS5 := Lib.hid hs5; clear hl5 hm5 hs5)
        refine (Eval_len _ _ _ (psum xs ys) x HLs.out HXs.out IsU.lo IsU.hi (by omega) _ _ (HSs.out.on HB5.out)).mono ?_
        rintro e w6 ⟨rfl, n6, rfl⟩
        go_wp2_with fail
        refine (Eval_len _ _ _ xs x rfl HX.out IsU.lo IsU.hi (by omega) _ _ (HSx.out.on (below_drewN HB5.out _))).mono ?_
        rintro e w7 ⟨rfl, n7, rfl⟩
        go_wp2_with fail
        refine (Eval_len _ _ _ ys x rfl HY.out IsU.lo IsU.hi (by omega) _ _ (HSy.out.on (below_drewN HB5.out _))).mono ?_
        rintro e w8 ⟨rfl, n8, rfl⟩
        go_wp2_with fail
        refine (Add_i _ _ _).mono ?_; rintro e w' ⟨rfl, rfl⟩
        go_wp2_with fail
        refine (Eval_len _ _ _ (z :: xs) x rfl HXz.out IsU.lo IsU.hi (by rw [List.length_cons]; omega) _ _ (HS5.out.on (below_drewN (Below.refl _ _) _))).mono ?_
        rintro e w9 ⟨rfl, n9, rfl⟩
        go_wp2_with fail
        refine (Eval_len _ _ _ xs x rfl HX.out IsU.lo IsU.hi (by omega) _ _ (HSx.out.on (below_drewN HB5.out _))).mono ?_
        rintro e w10 ⟨rfl, n10, rfl⟩
        go_wp2_with fail
        refine (Mul_i _ _ _).mono ?_; rintro e w' ⟨rfl, rfl⟩
        go_wp2_with fail
        refine (Add_i _ _ _).mono ?_; rintro e w' ⟨rfl, rfl⟩
        go_wp2_with fail
        refine (Eval_len _ _ _ (z :: xs) 0 rfl HXz.out (by omega) (by omega) (by rw [List.length_cons]; omega) _ _ (HS5.out.on (below_drewN (Below.refl _ _) _))).mono ?_
        rintro e w11 ⟨rfl, n11, rfl⟩
        go_wp2_with fail
        refine (Eval_len _ _ _ xs 1 rfl HX.out (by omega) (by omega) (by omega) _ _ (HSx.out.on (below_drewN HB5.out _))).mono ?_
        rintro e w10 ⟨rfl, n12, rfl⟩
        go_wp2_with fail
        refine (Eval_len none 0 0 [] x rfl (by simp) IsU.lo IsU.hi (by omega) 0 _ (fun j hj => absurd hj (by simp))).mono ?_
        rintro e w13 ⟨rfl, n13, rfl⟩
        go_wp2_with fail
        go_ret
        exact ⟨rfl, below_drewN (HB.out.trans (HB5.out.mono HB.out.size)) _⟩

set_option maxRecDepth 100000 in
theorem polys_all (A A' : Option Addr) (c c' : Nat) (xs ys : List Int) (z x : Int) [IsU z] [IsU x] (w : World) (hs : SI w w.heap.size .u64 A xs) (hs' : SI w w.heap.size .u64 A' ys)
    (hc : xs.length ≤ c) (hcm : c ≤ maxLen) (hc' : ys.length ≤ c') (hcm' : c' ≤ maxLen) (hx : ∀ n ∈ xs, (Lit.int .u64 n).wf = true) (hy : ∀ n ∈ ys, (Lit.int .u64 n).wf = true) :
    Calls Try.prog 11 #[.slice A xs.length c, .slice A' ys.length c', .int .u64 z, .int .u64 x] w fun e w' => e = .returned (.bool true) ∧ Below w.heap.size w w' := by
  by_cases hg : xs.length ≤ 60 ∧ ys.length ≤ 60
  · exact polys_walk A A' c c' xs ys z x w hs hs' hc hcm hc' hcm' hx hy hg.1 hg.2
  · clear hs hs' hx hy
    unfold maxLen at hcm hcm'
    rcases Nat.lt_or_ge 60 xs.length with h1 | h1
    · clear hg
      go_enter Try.func11, Try.ntmps11
      go_wp2_with fail
      refine (live_any _).mono ?_
      rintro e w1 ⟨rfl, hb⟩
      have HB := Lib.hid hb
      clear hb
      go_wp2_with fail
      go_ret
      exact ⟨rfl, HB.out⟩
    · have h2 : 60 < ys.length := by omega
      clear hg
      go_enter Try.func11, Try.ntmps11
      go_wp2_with fail
      refine (live_any _).mono ?_
      rintro e w1 ⟨rfl, hb⟩
      have HB := Lib.hid hb
      clear hb
      go_wp2_with fail
      go_ret
      exact ⟨rfl, HB.out⟩
end Go.Proofs.Ythdcimbdahjjbaa

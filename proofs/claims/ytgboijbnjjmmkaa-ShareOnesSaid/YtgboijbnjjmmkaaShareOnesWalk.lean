/- The walk of the law ShareOnes. -/
import Derived.Test.YtgboijbnjjmmkaaShareGood
namespace Go.Proofs.Ytgboijbnjjmmkaa
open Go.ChangeShapes Go.WideShapes Go.ChangeAt Go.RowKit Gs
set_option linter.unusedVariables false

def alike (ids : List Int) (x : Int) : List (Int × Int) := ids.map fun i => (i, x)
theorem alike_fst (ids : List Int) (x : Int) : (alike ids x).map Prod.fst = ids := by
  unfold alike; rw [List.map_map]; exact List.map_id _
theorem alike_take (ids : List Int) (x : Int) (k : Nat) (h : k < ids.length) : alike (ids.take (k + 1)) x = alike (ids.take k) x ++ [(ids[k], x)] := by
  unfold alike; rw [List.take_succ_eq_append_getElem h, List.map_append]; rfl
theorem alike_length (ids : List Int) (x : Int) : (alike ids x).length = ids.length := by simp [alike]
theorem alike_jat {ids : List Int} (hr : RightI ids) {x : Int} (hx : Rb x) : jat ids 0 (alike ids x) = x := by
  have h := jat_pval (c := [x]) (l := alike ids x) (by rw [alike_length]; exact hr.1) (by rw [alike_fst]; exact right_apart hr) (fun p hp => by
    obtain ⟨i, _, rfl⟩ := List.mem_map.1 hp
    show x = radd (rmul 0 i) x
    unfold Rb at hx; unfold radd rmul; omega) 0
  rw [alike_fst] at h
  rw [h]
  exact pval_none x [] hx
def wsum (ids : List Int) (k : Nat) : Int := jat ids 0 (alike (ids.take k) 1)
theorem wsum_step (ids : List Int) (k : Nat) (h : k < ids.length) : wsum ids (k + 1) = radd (wsum ids k) (wat ids ids[k] 0) := by
  unfold wsum
  rw [alike_take ids 1 k h]
  unfold jat
  rw [List.foldl_append]
  show radd _ (rmul 1 (wat ids ids[k] 0)) = _
  have hb := wat_rb ids ids[k] 0
  unfold Rb at hb
  rw [show rmul 1 (wat ids ids[k] 0) = wat ids ids[k] 0 by unfold rmul; omega]
theorem wsum_rb (ids : List Int) (k : Nat) : Rb (wsum ids k) := jat_rb _ _ _
theorem wsum_all {ids : List Int} (hr : RightI ids) : wsum ids ids.length = 1 := by
  unfold wsum
  rw [List.take_length]
  exact alike_jat hr rb_one

set_option maxHeartbeats 4000000 in
theorem ones_right (A : Option Addr) (c : Nat) (xs : List Int) (x : Int) [hu : IsU x] (w : World) (hs : SI w w.heap.size .i64 A xs) (hc : xs.length ≤ c) (hm : c ≤ maxLen) (hr : RightI xs) :
    Calls Try.prog 11 #[.slice A xs.length c, .int .u64 x] w fun e w' => e = .returned (.bool true) ∧ Below w.heap.size w w' := by
  have HI := Lib.hid hs
  have B0 := Lib.hid (Below.refl w.heap.size w)
  have HR := Lib.hid hr
  have l1 := hr.1
  have l7 := hr.2.1
  have x0 := hu.1
  obtain ⟨j0, hj, hy0, hy1, hy2⟩ := info_parts Try.info43
  have HJ := Lib.hid (And.intro hj (And.intro hy0 (And.intro hy1 hy2)))
  have HM := Lib.hid hm
  have hz0 : ((xs.length : Int) == 0) = false := beq_eq_false_iff_ne.2 (by omega)
  clear hs hj hy0 hy1 hy2 hr hm
  go_enter Try.func11, Try.ntmps11
  go_wp2_with fail
  refine (live5 _).mono ?_; rintro _ w1 ⟨rfl, b⟩; have B1 := Lib.hid (below_on B0.out b); clear b
  go_wp2_with fail
  go_loopw [5, 6, 7] (fun o s j wr => ∃ k : Nat, k ≤ xs.length ∧ j = .int .i64 k ∧ s = .int .u64 (wsum xs k) ∧ OwnS wr w.heap.size o (alike (xs.take k) x) ∧ Below w.heap.size w wr) (fun _ _ j _ => xs.length - (intOf j).toNat)
  case atStart => exact ⟨0, by omega, rfl, rfl, own_noneS w1 B1.out.size, B1.out.alloc B1.out.size _⟩
  case round =>
    obtain ⟨k, hk, rfl, rfl, ho, hd⟩ := hrel
    have HO := Lib.hid ho
    have HD := Lib.hid hd
    have hz := hd.size
    clear ho hd
    by_cases hlt : k < xs.length
    · obtain ⟨ad, rfl, had, c0⟩ := si_at (HI.out.on HD.out) k hlt
      have HT := Lib.hid (alike_take xs x k hlt)
      have HLen := Lib.hid (show (alike (xs.take k) x).length = k by rw [alike_length, List.length_take]; omega)
      have HW := Lib.hid (wsum_step xs k hlt)
      have P1 := Lib.hid (fun w hs => (Weight_any (some ad) c xs (by omega) hc HM.out xs[k] w hs).mono fun r w' (h : WeightE xs xs[k] r ∧ Below w.heap.size w w') => (⟨h.1.1 ⟨HR.out, List.getElem_mem hlt⟩, h.2⟩ : r = .returned (.tuple #[.int .u64 (wat xs xs[k] 0), .int .i64 0]) ∧ Below w.heap.size w w'))
      haveI := rb_u (wsum_rb xs k)
      have P2 := Lib.hid (AddR_r (wsum xs k) (wat xs xs[k] 0))
      go_wp2_with (at_builtin; refine wpList_append_any _ rfl _ _ 24 rfl w.heap.size 43 j0 (.agg #[.int .i64 0, .int .u64 0]) 2 16 Try.underlying24 HJ.out.1 HJ.out.2.1 HJ.out.2.2.1 HJ.out.2.2.2 rfl (by decide) _ _ _ rfl (own_below HO.out ((Below.refl _ _).alloc (Nat.le_refl _) _)) _ _ 1 _ (cells2 [(xs[k], x)]) rfl (reads_new (Blk.new_at wr _ _ rfl) 1 rfl) (cells2_one _) (by rw [HLen.out]; unfold maxLen; omega) (by rw [HLen.out]; omega) (by simp; omega) ?_; intro v' w6 hown' hgrow _; have HO7 := Lib.hid hown'; have HG := Lib.hid hgrow; clear hown' hgrow; have B6 := Lib.hid (HD.out.trans (((Below.refl w.heap.size wr).alloc hz _).grown HG.out (by simp; omega) (fun g e => own_ge HO.out g e))); obtain ⟨ad6, e6, _, c6⟩ := si_at (HI.out.on B6.out) k hlt; cases e6)
      have HO8 := Lib.hid (show OwnS w6 w.heap.size v' (alike (xs.take (k + 1)) x) by
        have h := HO7.out
        rw [← cells2_append] at h
        rw [HT.out]
        exact own_s h (by simp) rfl)
      refine (P1.out _ (HI.out.on B6.out)).mono ?_; rintro _ w7 ⟨rfl, b⟩
      have B7 := Lib.hid (below_on B6.out b)
      have HO9 := Lib.hid (own_below HO8.out b)
      clear b
      go_wp2_with fail
      refine (P2.out _).mono ?_; rintro _ w' ⟨rfl, rfl⟩
      go_wp2_with fail
      go_roundw
      case rel => exact ⟨k + 1, by omega, by go_num, by rw [HW.out], HO9.out, B7.out⟩
      case measure => simp [intOf]; omega
    · obtain rfl : k = xs.length := by omega
      have hw1 := wsum_all HR.out
      obtain ⟨A3, c3, rfl, k1, k2, hs3, _⟩ := own_sliceS HO.out
      have HLen := Lib.hid (show (alike (xs.take xs.length) x).length = xs.length by rw [alike_length, List.take_length])
      rw [List.take_length] at hs3
      rw [hw1, HLen.out]
      rw [HLen.out] at k1
      have HS3 := Lib.hid hs3
      have HJ3 := Lib.hid (fun w hs => Join_any A3 c3 (alike xs x) xs (alike_fst xs x) (by rw [alike_length]; omega) (by rw [alike_length]; exact k1) k2 (fun p hp => by obtain ⟨i, _, rfl⟩ := List.mem_map.1 hp; exact ⟨hu.1, hu.2⟩) w hs)
      rw [alike_length] at HJ3
      have hne : alike xs x ≠ [] := fun e => by have := alike_length xs x; rw [e] at this; simp at this; omega
      have HNE := Lib.hid hne
      clear hw1 hs3 k1 k2 hne
      by_cases hx : x < 1152921504606845789
      · have hji : JoinI xs (alike xs x) := ⟨HR.out, List.all_eq_true.2 fun p hp => by obtain ⟨i, _, rfl⟩ := List.mem_map.1 hp; exact decide_eq_true hx⟩
        have HJI := Lib.hid hji
        clear hji
        go_wp2_with fail
        refine (HJ3.out _ HS3.out).mono ?_; rintro r w8 ⟨he, b⟩
        have B8 := Lib.hid (below_on HD.out b)
        have he := he.2.1 HNE.out HJI.out
        rw [alike_jat HR.out ⟨x0, hx⟩] at he
        subst he
        clear b
        go_wp2_with fail
        go_ret
        exact ⟨rfl, B8.out⟩
      · have hji : ¬ JoinI xs (alike xs x) := fun h => by
          have := List.all_eq_true.1 h.2 (xs[0], x) (List.mem_map.2 ⟨xs[0], List.getElem_mem (by omega), rfl⟩)
          exact hx (of_decide_eq_true this)
        have HJI := Lib.hid hji
        clear hji
        go_wp2_with fail
        refine (HJ3.out _ HS3.out).mono ?_; rintro r w8 ⟨he, b⟩
        have B8 := Lib.hid (below_on HD.out b)
        have he := he.2.2 HNE.out HJI.out
        subst he
        clear b
        go_wp2_with fail
        go_ret
        exact ⟨rfl, B8.out⟩

set_option maxHeartbeats 4000000 in
theorem ones_wrong (A : Option Addr) (c : Nat) (xs : List Int) (x : Int) [hu : IsU x] (w : World) (hs : SI w w.heap.size .i64 A xs) (hc : xs.length ≤ c) (hm : c ≤ maxLen) (l1 : 1 ≤ xs.length) (l10 : xs.length ≤ 10) (hr : ¬ RightI xs) :
    Calls Try.prog 11 #[.slice A xs.length c, .int .u64 x] w fun e w' => e = .returned (.bool true) ∧ Below w.heap.size w w' := by
  have HI := Lib.hid hs
  have B0 := Lib.hid (Below.refl w.heap.size w)
  have x0 := hu.1
  obtain ⟨j0, hj, hy0, hy1, hy2⟩ := info_parts Try.info43
  have HJ := Lib.hid (And.intro hj (And.intro hy0 (And.intro hy1 hy2)))
  have HM := Lib.hid hm
  have P1 := Lib.hid (fun A w hs => (Weight_any A c xs (by omega) hc hm xs[0] w hs).mono fun r w' (h : WeightE xs xs[0] r ∧ Below w.heap.size w w') => (⟨h.1.2 (fun g => hr g.1), h.2⟩ : r = .returned (.tuple #[.int .u64 0, .int .i64 1]) ∧ Below w.heap.size w w'))
  have HL := Lib.hid (show JoinI [xs[0]] [(xs[0], x)] → 1 < xs.length from fun h => by
    by_cases e : xs.length = 1
    · obtain ⟨y, rfl⟩ := List.length_eq_one_iff.1 e
      exact absurd h.1 hr
    · omega)
  clear hs hj hy0 hy1 hy2 hr hm
  obtain ⟨a, f, hJ, hf⟩ : ∃ a f : Int, (∀ r, JoinE [xs[0]] [(xs[0], x)] r → r = .returned (.tuple #[.int .u64 a, .int .i64 f])) ∧ (f = 1 ∨ (f = 0 ∧ a = x ∧ 1 < xs.length)) := by
    by_cases h : JoinI [xs[0]] [(xs[0], x)]
    · refine ⟨x, 0, fun r hr => ?_, .inr ⟨rfl, rfl, HL.out h⟩⟩
      have e := hr.2.1 (by simp) h
      have hx : Rb x := ⟨x0, by have := List.all_eq_true.1 h.2 (xs[0], x) (by simp); exact of_decide_eq_true this⟩
      rw [show jat [xs[0]] 0 [(xs[0], x)] = x from alike_jat (ids := [xs[0]]) h.1 hx] at e
      exact e
    · exact ⟨0, 1, fun r hr => hr.2.2 (by simp) h, .inl rfl⟩
  have HJE := Lib.hid hJ
  clear hJ
  have hf : f = 1 ∨ (f = 0 ∧ (a == x) = true ∧ 1 < xs.length) := hf.imp id (fun h => ⟨h.1, beq_iff_eq.2 h.2.1, h.2.2⟩)
  rcases hf with rfl | ⟨rfl, ha, hl⟩
  all_goals
    go_enter Try.func11, Try.ntmps11
    go_wp2_with fail
    refine (live5 _).mono ?_; rintro _ w1 ⟨rfl, b⟩; have B1 := Lib.hid (below_on B0.out b); clear b
    have hz := B1.out.size
    obtain ⟨ad, rfl, had, c0⟩ := si_at (HI.out.on B1.out) 0 (by omega)
    have a0 : ∀ a : Addr, a.add 0 = a := fun a => by simp [Addr.add]
    rw [a0] at c0
    have hO : OwnS (w1.alloc (.cells #[] 43)) w.heap.size (.slice (some ⟨w1.heap.size, 0, none⟩) 0 0) [] := own_noneS w1 hz
    have HO := Lib.hid hO
    clear hO
    go_wp2_with fail
    refine wp_loop_rounds 1 ?_
    rw [rounds_succ]
    go_wp2_with (at_builtin; refine wpList_append_any _ rfl _ _ 24 rfl w.heap.size 43 j0 (.agg #[.int .i64 0, .int .u64 0]) 2 16 Try.underlying24 HJ.out.1 HJ.out.2.1 HJ.out.2.2.1 HJ.out.2.2.2 rfl (by decide) _ 0 [] rfl (own_below HO.out ((Below.refl _ _).alloc (Nat.le_refl _) _)) _ _ 1 _ (cells2 [(xs[0], x)]) rfl (reads_new (Blk.new_at (w1.alloc (.cells #[] 43)) _ _ (by simp)) 1 rfl) (cells2_one _) (by unfold maxLen; omega) (by omega) (by simp; omega) ?_; intro v' w6 hown' hgrow _; have HO7 := Lib.hid hown'; have HG := Lib.hid hgrow; clear hown' hgrow; have B6 := Lib.hid (B1.out.trans ((((Below.refl w.heap.size w1).alloc hz _).alloc (by simp; omega) _).grown HG.out (by simp; omega) (fun g e => own_ge HO.out g e))); obtain ⟨ad6, e6, _, c6⟩ := si_at (HI.out.on B6.out) 0 (by omega); cases e6; rw [a0] at c6)
    refine (P1.out _ _ (HI.out.on B6.out)).mono ?_; rintro _ w7 ⟨rfl, b⟩
    have B7 := Lib.hid (below_on B6.out b)
    have HO9 := Lib.hid (own_below HO7.out b)
    clear b
    go_wp2_with fail
    have hO10 : OwnS w7 w.heap.size v' [(xs[0], x)] := own_s HO9.out rfl rfl
    obtain ⟨A3, c3, rfl, k1, k2, hs3, _⟩ := own_sliceS hO10
    have HS3 := Lib.hid hs3
    have HJ3 := Lib.hid (Join_any A3 c3 [(xs[0], x)] [xs[0]] rfl (by simp) k1 k2 (by simp; exact ⟨hu.1, hu.2⟩))
    clear hO10 hs3 k1 k2
    refine (HJ3.out _ HS3.out).mono ?_; rintro r w8 ⟨he, b⟩
    have B8 := Lib.hid (below_on B7.out b)
    have he := HJE.out r he
    subst he
    clear b
    go_wp2_with fail
    go_ret
    exact ⟨rfl, B8.out⟩

theorem ones_walk5 (A : Option Addr) (c : Nat) (xs : List Int) (x : Int) [hu : IsU x] (w : World) (hs : SI w w.heap.size .i64 A xs) (hc : xs.length ≤ c) (hm : c ≤ maxLen) :
    Calls Try.prog 11 #[.slice A xs.length c, .int .u64 x] w fun e w' => e = .returned (.bool true) ∧ Below w.heap.size w w' := by
  by_cases hr : RightI xs
  · exact ones_right A c xs x w hs hc hm hr
  · by_cases l10 : xs.length ≤ 10
    · by_cases l1 : 1 ≤ xs.length
      · exact ones_wrong A c xs x w hs hc hm l1 l10 hr
      · obtain rfl : xs = [] := List.length_eq_zero_iff.1 (by omega)
        have B0 := Lib.hid (Below.refl w.heap.size w)
        have HJ3 := Lib.hid (fun A w hs => (Join_any A 0 [] [] rfl (by simp) (by simp) (by unfold maxLen; omega) (by simp) w hs).mono fun r w' (h : JoinE [] [] r ∧ Below w.heap.size w w') => (⟨h.1.1 rfl, h.2⟩ : r = .returned (.tuple #[.int .u64 0, .int .i64 50]) ∧ Below w.heap.size w w'))
        clear hs hr hm
        go_enter Try.func11, Try.ntmps11
        go_wp2_with fail
        refine (live5 _).mono ?_; rintro _ w1 ⟨rfl, b⟩; have B1 := Lib.hid (below_on B0.out b); clear b
        go_wp2_with fail
        refine wp_loop_rounds 1 ?_
        rw [rounds_succ]
        go_wp2_with fail
        refine (HJ3.out _ _ (fun j hj => by simp at hj)).mono ?_; rintro r w8 ⟨rfl, b⟩
        have B8 := Lib.hid (below_on (B1.out.alloc B1.out.size _) b)
        clear b
        go_wp2_with fail
        go_ret
        exact ⟨rfl, B8.out⟩
    · have B0 := Lib.hid (Below.refl w.heap.size w)
      clear hs hr hm
      go_enter Try.func11, Try.ntmps11
      go_wp2_with fail
      refine (live5 _).mono ?_; rintro _ w1 ⟨rfl, b⟩; have B1 := Lib.hid (below_on B0.out b); clear b
      go_wp2_with fail
      go_ret
      exact ⟨rfl, B1.out⟩
end Go.Proofs.Ytgboijbnjjmmkaa

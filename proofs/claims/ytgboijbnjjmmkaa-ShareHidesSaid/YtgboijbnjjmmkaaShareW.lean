/- What package share answers: whether public shares fit. -/
import Derived.Test.YtgboijbnjjmmkaaShareU
namespace Go.Proofs.Ytgboijbnjjmmkaa
open Go.ChangeShapes Go.WideShapes Go.ChangeAt Go.RowKit Gs
set_option linter.unusedVariables false

theorem right_take {ids : List Int} {T : Nat} (h : RightI ids) (t1 : 1 ≤ T) (tl : T ≤ ids.length) : RightI (ids.take T) := by
  have hl : (ids.take T).length = T := by rw [List.length_take]; omega
  refine ⟨by omega, by have := h.2.1; omega, fun i hi => ?_⟩
  have := h.2.2 i (by omega)
  simp only [List.getElem_take]
  exact this
theorem SS.drop {w : World} {B : Nat} {ad : Addr} {l : List (Int × Int)} (h : SS w B (some ad) l) (T : Nat) : SS w B (some (ad.add (T * 2))) (l.drop T) := fun j hj => by
  have hj' : T + j < l.length := by rw [List.length_drop] at hj; omega
  obtain ⟨ad', e, hb, c0, c1⟩ := h (T + j) hj'
  cases e
  refine ⟨_, rfl, by rw [block_of_add]; exact hb, ?_⟩
  rw [add_of_add, show T * 2 + j * 2 = (T + j) * 2 by omega, List.getElem_drop]
  exact ⟨c0, c1⟩
theorem grp_all {l : List (Int × Int)} : (l.all fun p => qin p.2) = true ↔ Grp l := by
  rw [List.all_eq_true]
  constructor
  · intro h i hi; exact h _ (List.getElem_mem hi)
  · intro h p hp
    obtain ⟨i, hi, rfl⟩ := List.getElem_of_mem hp
    exact h i hi

set_option maxRecDepth 100000 in
set_option maxHeartbeats 8000000 in
theorem Check_fit (T : Nat) (A : Option Addr) (c : Nat) (l : List (Int × Int)) (ids : List Int) (hids : l.map Prod.fst = ids) (hlc : l.length ≤ c) (hm : c ≤ maxLen) (hu : ∀ p ∈ l, 0 ≤ p.2 ∧ p.2 < 18446744073709551616) (t1 : 1 ≤ T) (t7 : T ≤ 7) (hr : RightI ids) (hg : Grp l) (htl : T ≤ l.length) (w : World) (hs : SS w w.heap.size A l) :
    Calls Try.prog 22 #[.int .i64 (T : Int), .slice A l.length c] w fun e w' => CheckE (T : Int) ids l e ∧ Below w.heap.size w w' := by
  have B0 := Lib.hid (Below.refl w.heap.size w)
  have HS := Lib.hid hs
  have HN := Lib.hid (show ids.length = l.length by rw [← hids]; simp)
  have hl : l.length ≤ 7 := by have := hr.2.1; rw [HN.out] at this; exact this
  have P1 := Lib.hid (idsOf_any A l.length c l rfl (by omega))
  rw [hids] at P1
  have P2 := Lib.hid (fun A c w h1 h2 => right_any A c ids (by rw [HN.out]; omega) h1 w.heap.size w h2)
  rw [HN.out] at P2
  have P3 := Lib.hid (allIn_any A l.length c l rfl (by omega) hu)
  rw [grp_all.2 hg] at P3
  have P4 := Lib.hid (fun i i0 i1 w hs => publicAt_any A T c (l.take T) (by rw [List.length_take]; omega) (ids.take T) (by rw [List.map_take, hids]) (fun p hp => hu p (List.mem_of_mem_take hp)) (right_take hr t1 (by rw [HN.out]; exact htl)) i i0 i1 w hs)
  have HB := Lib.hid (show ¬ BadArg (T : Int) ids by unfold BadArg; rintro (h | h | ⟨_, h⟩) <;> first | omega | exact h hr)
  have HG := Lib.hid hg
  have HR := Lib.hid hr
  have HU := Lib.hid hu
  have HI := Lib.hid (show ∀ i (h : i < l.length), l[i].1 ∈ ids by intro i h; rw [← hids]; exact List.mem_map_of_mem (List.getElem_mem h))
  obtain ⟨ad, rfl, _⟩ := hs 0 (by omega)
  clear hids hu hr hg hs
  have q1 : decide ((T : Int) < 1) = false := decide_eq_false (by omega)
  have q2 : decide ((7 : Int) < (T : Int)) = false := decide_eq_false (by omega)
  have q3 : decide ((0 : Int) < (l.length : Int)) = true := decide_eq_true (by omega)
  have q4 : decide ((l.length : Int) < (T : Int)) = false := decide_eq_false (by omega)
  have htc : T ≤ c := by omega
  go_enter Try.func22, Try.ntmps22
  go_wp2_with fail
  refine (P1.out _ HS.out).mono ?_; rintro e w1 ⟨v, rfl, ho, b⟩
  obtain ⟨A', c', rfl, hc1, hc2, hs1, _⟩ := own_sliceI ho
  have HI1 := Lib.hid hs1
  have B1 := Lib.hid (below_on B0.out b)
  clear ho b hs1
  rw [HN.out] at hc1 ⊢
  go_wp2_with fail
  refine (P2.out _ _ _ hc1 HI1.out).mono ?_; rintro e w' ⟨⟨b, rfl, hb⟩, rfl⟩
  obtain rfl : b = true := hb.2 HR.out
  clear hb
  go_wp2_with fail
  refine (P3.out _ (HS.out.on B1.out)).mono ?_; rintro e w2 ⟨rfl, b⟩
  have B2 := Lib.hid (below_on B1.out b)
  clear b
  go_wp2_with fail
  go_quiet (fail)
  go_wp2_with fail
  · have q5 : decide ((0 : Int) < ((l.length - T : Nat) : Int)) = false := decide_eq_false (by omega)
    refine wp_loop_rounds 1 ?_
    rw [rounds_succ]
    go_wp2_with fail
    go_ret
    exact ⟨check_is (.inr ⟨HB.out, HG.out, .inr ⟨by omega, .inr ⟨rfl, fun i h g => by omega⟩⟩⟩), B2.out.trans (((Dr.refl w2).drewN _).below _)⟩
  · have B3 := Lib.hid (B2.out.trans (((Dr.refl w2).drewN nq).below _))
    have HE : l.length - T = l.length - T := rfl
    obtain ⟨d, hd⟩ : ∃ d, l.length - T = d := ⟨_, rfl⟩
    rw [hd]
    clear HE
    go_loopw [43] (fun j wr => ∃ m : Nat, m ≤ d ∧ j = .int .i64 m ∧ (∀ i (h : i < l.length), T ≤ i → i < T + m → qat (ids.take T) l[i].1 (l.take T) = l[i].2) ∧ Below w.heap.size w wr) (fun j _ => d - (intOf j).toNat)
    case atStart => exact ⟨0, by omega, rfl, fun i h g g' => by omega, B3.out⟩
    case round =>
      obtain ⟨m, hmd, rfl, hq, hb⟩ := hrel
      have HQ := Lib.hid hq
      have HD := Lib.hid hb
      have hz := hb.size
      clear hq hb
      by_cases hlt : m < d
      · have hlt' : T + m < l.length := by omega
        have hxi := right_all HR.out l[T + m].1 (HI.out (T + m) hlt')
        have P5 := Lib.hid (P4.out l[T + m].1 (by omega) (by omega))
        have hx := HU.out l[T + m] (List.getElem_mem hlt')
        haveI : IsU l[T + m].2 := ⟨hx.1, hx.2⟩
        have HT := Lib.hid ((HS.out.below HD.out).take T)
        have HF := Lib.hid (fun (q : qat (ids.take T) l[T + m].1 (l.take T) = l[T + m].2) => (show ∀ i (h : i < l.length), T ≤ i → i < T + (m + 1) → qat (ids.take T) l[i].1 (l.take T) = l[i].2 from fun i h g g' => by
          by_cases e : i = T + m
          · subst e; exact q
          · exact HQ.out i h g (by omega)))
        have HF2 := Lib.hid (fun (q : qat (ids.take T) l[T + m].1 (l.take T) ≠ l[T + m].2) => (show ¬ Fits (T : Int).toNat ids l from fun h => q (h (T + m) hlt' (by omega))))
        have hss := (HS.out.below HD.out).drop T m (by rw [List.length_drop]; omega)
        simp only [List.getElem_drop] at hss
        obtain ⟨ad', e', had, c0, c1⟩ := hss
        cases e'
        have hxi0 := hxi.1
        clear hxi hx
        generalize hp : l[T + m] = p at *
        generalize hqv : qat (ids.take T) p.1 (l.take T) = z at *
        go_wp2_with fail
        have k0 : (wr.alloc (.cells #[.int .i64 p.1, .int .u64 p.2] 43)).cell? ⟨wr.heap.size, 0, none⟩ = some (.int .i64 p.1) := (Blk.new wr 43 #[.int .i64 p.1, .int .u64 p.2]).cell 0
        have k1 : (wr.alloc (.cells #[.int .i64 p.1, .int .u64 p.2] 43)).cell? ⟨wr.heap.size, 1, none⟩ = some (.int .u64 p.2) := (Blk.new wr 43 #[.int .i64 p.1, .int .u64 p.2]).cell 1
        clear c0 c1
        refine wp_named (fun W => W.cell? ⟨wr.heap.size, 0, none⟩ = some (.int .i64 p.1) ∧ W.cell? ⟨wr.heap.size, 1, none⟩ = some (.int .u64 p.2) ∧ Below w.heap.size w W ∧ wr.heap.size < W.heap.size) ⟨k0, k1, HD.out.alloc hz _, by simp⟩ ?_
        clear k0 k1
        rintro W ⟨c0, c1, hD, hzW⟩
        have D0 := Lib.hid hD
        have HTW := Lib.hid (fun wi (h : Below W.heap.size W wi) => ((HS.out.on hD).take T).on h)
        clear hD HT
        have hd2 : W.heap.size ≤ W.drew.heap.size := Nat.le_refl _
        by_cases hq : z = p.2
        · have hb : (p.2 != z) = false := by simp [hq]
          have HQ2 := Lib.hid (HF.out hq)
          clear HF HF2 hq
          go_region_held_law (fun w' => w'.cell? ⟨wr.heap.size, 0, none⟩ = some (.int .i64 p.1) ∧ w'.cell? ⟨wr.heap.size, 1, none⟩ = some (.int .u64 p.2)) (first | exact ⟨by assumption, by assumption⟩ | go_keep)
            (first
              | (go_at_call 55; refine (P5.out _ (HTW.out _ (Below.refl W.heap.size W).drew)).mono ?_; rintro e w5 ⟨rfl, b5⟩; have hW := (Below.refl W.heap.size W).drew.trans (b5.mono (by omega)); have k0 := (hW.cell (p := ⟨wr.heap.size, 0, none⟩) hzW).trans c0; have k1 := (hW.cell (p := ⟨wr.heap.size, 1, none⟩) hzW).trans c1))
          have HX := Lib.hid (D0.out.trans (hW.mono D0.out.size))
          clear hW k0 k1 c0 c1
          go_wp2_with fail
          go_roundw
          case rel => exact ⟨m + 1, by omega, by go_num, HQ2.out, HX.out⟩
          case measure => simp [intOf]; omega
        · have hb : (p.2 != z) = true := by simp; exact fun h => hq h.symm
          have HQ2 := Lib.hid (HF2.out hq)
          clear HF HF2 hq
          go_region_held_law (fun w' => w'.cell? ⟨wr.heap.size, 0, none⟩ = some (.int .i64 p.1) ∧ w'.cell? ⟨wr.heap.size, 1, none⟩ = some (.int .u64 p.2)) (first | exact ⟨by assumption, by assumption⟩ | go_keep)
            (first
              | (go_at_call 55; refine (P5.out _ (HTW.out _ (Below.refl W.heap.size W).drew)).mono ?_; rintro e w5 ⟨rfl, b5⟩; have hW := (Below.refl W.heap.size W).drew.trans (b5.mono (by omega)); have k0 := (hW.cell (p := ⟨wr.heap.size, 0, none⟩) hzW).trans c0; have k1 := (hW.cell (p := ⟨wr.heap.size, 1, none⟩) hzW).trans c1))
          have HX := Lib.hid (D0.out.trans (hW.mono D0.out.size))
          clear hW k0 k1 c0 c1
          go_wp2_with fail
          go_ret
          exact ⟨check_is (.inr ⟨HB.out, HG.out, .inr ⟨by omega, .inl ⟨rfl, HQ2.out⟩⟩⟩), HX.out⟩
      · obtain rfl : m = d := by omega
        go_wp2_with fail
        go_ret
        exact ⟨check_is (.inr ⟨HB.out, HG.out, .inr ⟨by omega, .inr ⟨rfl, fun i h g => HQ.out i h g (by omega)⟩⟩⟩), HD.out⟩

set_option maxHeartbeats 8000000 in
theorem Check_any5 (t : Int) (A : Option Addr) (c : Nat) (l : List (Int × Int)) (ids : List Int) (hids : l.map Prod.fst = ids) (hl : l.length ≤ 1048576) (hlc : l.length ≤ c) (hm : c ≤ maxLen) (hu : ∀ p ∈ l, 0 ≤ p.2 ∧ p.2 < 18446744073709551616) (w : World) (hs : SS w w.heap.size A l) :
    Calls Try.prog 22 #[.int .i64 t, .slice A l.length c] w fun e w' => CheckE t ids l e ∧ Below w.heap.size w w' := by
  have B0 := Lib.hid (Below.refl w.heap.size w)
  have HS := Lib.hid hs
  have HN := Lib.hid (show ids.length = l.length by rw [← hids]; simp)
  by_cases h1 : t < 1
  · clear hids hu hs
    have HB := Lib.hid (show BadArg t ids from .inl h1)
    go_enter Try.func22, Try.ntmps22
    go_wp2_with fail
    go_ret
    exact ⟨check_is (.inl ⟨rfl, .inl HB.out⟩), B0.out⟩
  by_cases h7 : 7 < t
  · clear hids hu hs
    have HB := Lib.hid (show BadArg t ids from .inr (.inl h7))
    go_enter Try.func22, Try.ntmps22
    go_wp2_with fail
    go_ret
    exact ⟨check_is (.inl ⟨rfl, .inl HB.out⟩), B0.out⟩
  have P1 := Lib.hid (idsOf_any A l.length c l rfl hl)
  rw [hids] at P1
  have P2 := Lib.hid (fun A c w h1 h2 => right_any A c ids (by rw [HN.out]; exact hl) h1 w.heap.size w h2)
  rw [HN.out] at P2
  have P3 := Lib.hid (allIn_any A l.length c l rfl hl hu)
  by_cases h0 : l = []
  · subst h0
    have HB := Lib.hid (show ¬ BadArg t ids by unfold BadArg; rintro (h | h | ⟨h, _⟩) <;> first | omega | (rw [HN.out] at h; simp at h))
    have ht : decide ((0 : Int) < t) = true := decide_eq_true (by omega)
    clear hids hu hs
    go_enter Try.func22, Try.ntmps22
    go_wp2_with fail
    refine (P3.out _ HS.out).mono ?_; rintro e w2 ⟨rfl, b⟩
    have B2 := Lib.hid (below_on B0.out b)
    clear b
    go_wp2_with fail
    go_ret
    exact ⟨check_is (.inr ⟨HB.out, fun i h => by simp at h, .inl ⟨rfl, by simp; omega⟩⟩), B2.out⟩
  have h00 : 0 < l.length := List.length_pos_iff.2 h0
  by_cases hr : RightI ids
  · have HR := Lib.hid hr
    have HB := Lib.hid (show ¬ BadArg t ids by unfold BadArg; rintro (h | h | ⟨_, h⟩) <;> first | omega | exact h hr)
    by_cases hg : Grp l
    · by_cases hlt : (l.length : Int) < t
      · have HG := Lib.hid hg
        rw [grp_all.2 hg] at P3
        clear hids hu hs hr hg h0
        go_enter Try.func22, Try.ntmps22
        go_wp2_with fail
        refine (P1.out _ HS.out).mono ?_; rintro e w1 ⟨v, rfl, ho, b⟩
        obtain ⟨A', c', rfl, hc1, hc2, hs1, _⟩ := own_sliceI ho
        have HI1 := Lib.hid hs1
        have B1 := Lib.hid (below_on B0.out b)
        clear ho b hs1
        rw [HN.out] at hc1 ⊢
        go_wp2_with fail
        refine (P2.out _ _ _ hc1 HI1.out).mono ?_; rintro e w' ⟨⟨b, rfl, hb⟩, rfl⟩
        obtain rfl : b = true := hb.2 HR.out
        clear hb
        go_wp2_with fail
        refine (P3.out _ (HS.out.on B1.out)).mono ?_; rintro e w2 ⟨rfl, b⟩
        have B2 := Lib.hid (below_on B1.out b)
        clear b
        go_wp2_with fail
        go_ret
        exact ⟨check_is (.inr ⟨HB.out, HG.out, .inl ⟨rfl, hlt⟩⟩), B2.out⟩
      · obtain ⟨T, rfl⟩ := Int.eq_ofNat_of_zero_le (show 0 ≤ t by omega)
        exact Check_fit T A c l ids hids hlc hm hu (by omega) (by omega) hr hg (by omega) w hs
    · have HG := Lib.hid hg
      rw [Bool.eq_false_iff.2 (fun h => hg (grp_all.1 h))] at P3
      clear hids hu hs hr hg h0
      go_enter Try.func22, Try.ntmps22
      go_wp2_with fail
      refine (P1.out _ HS.out).mono ?_; rintro e w1 ⟨v, rfl, ho, b⟩
      obtain ⟨A', c', rfl, hc1, hc2, hs1, _⟩ := own_sliceI ho
      have HI1 := Lib.hid hs1
      have B1 := Lib.hid (below_on B0.out b)
      clear ho b hs1
      rw [HN.out] at hc1 ⊢
      go_wp2_with fail
      refine (P2.out _ _ _ hc1 HI1.out).mono ?_; rintro e w' ⟨⟨b, rfl, hb⟩, rfl⟩
      obtain rfl : b = true := hb.2 HR.out
      clear hb
      go_wp2_with fail
      refine (P3.out _ (HS.out.on B1.out)).mono ?_; rintro e w2 ⟨rfl, b⟩
      have B2 := Lib.hid (below_on B1.out b)
      clear b
      go_wp2_with fail
      go_ret
      exact ⟨check_is (.inl ⟨rfl, .inr ⟨HB.out, HG.out⟩⟩), B2.out⟩
  · have HR := Lib.hid hr
    have HB := Lib.hid (show BadArg t ids from .inr (.inr ⟨by rw [HN.out]; omega, hr⟩))
    clear hids hu hs hr h0
    go_enter Try.func22, Try.ntmps22
    go_wp2_with fail
    refine (P1.out _ HS.out).mono ?_; rintro e w1 ⟨v, rfl, ho, b⟩
    obtain ⟨A', c', rfl, hc1, hc2, hs1, _⟩ := own_sliceI ho
    have HI1 := Lib.hid hs1
    have B1 := Lib.hid (below_on B0.out b)
    clear ho b hs1
    rw [HN.out] at hc1 ⊢
    go_wp2_with fail
    refine (P2.out _ _ _ hc1 HI1.out).mono ?_; rintro e w' ⟨⟨b, rfl, hb⟩, rfl⟩
    obtain rfl : b = false := Bool.eq_false_iff.2 (fun h => HR.out (hb.1 h))
    clear hb
    go_wp2_with fail
    go_ret
    exact ⟨check_is (.inl ⟨rfl, .inl HB.out⟩), B1.out⟩
end Go.Proofs.Ytgboijbnjjmmkaa

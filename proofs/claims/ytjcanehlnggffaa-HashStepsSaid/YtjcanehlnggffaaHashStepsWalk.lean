/- The walk of the law HashSteps. -/
import Derived.Test.YtjcanehlnggffaaHashLive
import Derived.RegionTactic
import Derived.StillTailTactics
import Derived.Deep.Cut
import Derived.Deep.RegionHeld3
import Derived.Deep.DrawnRows
namespace Go.Proofs.Ytjcanehlnggffaa
open Go.ChangeShapes Go.WideShapes Go.ChangeAt Go.RowKit Gs
set_option linter.unusedVariables false
attribute [local go_sem ↓] Go.wp_at_zero Go.wp_at_succ

/-- What is soaked up when i elements have been. -/
def sti (l : List Int) (s : S3) (i : Nat) : S3 :=
  if i % 2 = 0 then habs l s (i / 2) else if i = l.length then habs l s (i / 2 + 1) else (fadd (habs l s (i / 2)).1 (l[i - 1]?.getD 0), (habs l s (i / 2)).2.1, (habs l s (i / 2)).2.2)
theorem sti_u (l : List Int) (s : S3) (h : U3 s) (i : Nat) : U3 (sti l s i) := by
  unfold sti
  split
  · exact habs_u l s h _
  · split
    · exact habs_u l s h _
    · exact ⟨(fadd_el _ _).u64, (habs_u l s h _).2.1, (habs_u l s h _).2.2⟩
theorem sti_zero (l : List Int) (s : S3) : sti l s 0 = s := rfl
/-- An even one, which is not the last. -/
theorem sti_even (l : List Int) (s : S3) (i : Nat) (h : i % 2 = 0) (hl : i + 1 < l.length) : sti l s (i + 1) = (fadd (sti l s i).1 l[i], (sti l s i).2.1, (sti l s i).2.2) := by
  unfold sti
  rw [if_neg (by omega), if_neg (by omega), if_pos h, show (i + 1) / 2 = i / 2 by omega, show i + 1 - 1 = i by omega, List.getElem?_eq_getElem (by omega)]
  rfl
theorem sti_last (l : List Int) (s : S3) (i : Nat) (h : i % 2 = 0) (hl : i + 1 = l.length) : sti l s (i + 1) = hmix (fadd (sti l s i).1 l[i], (sti l s i).2.1, (sti l s i).2.2) := by
  unfold sti
  rw [if_neg (by omega), if_pos hl, if_pos h, show (i + 1) / 2 = i / 2 by omega, habs_succ]
  unfold hstep stp
  rw [show 2 * (i / 2) = i by omega, List.getElem?_eq_getElem (by omega), List.getElem?_eq_none (by omega)]
  rfl
theorem sti_odd (l : List Int) (s : S3) (i : Nat) (h : i % 2 = 1) (hl : i < l.length) : sti l s (i + 1) = hmix ((sti l s i).1, fadd (sti l s i).2.1 l[i], (sti l s i).2.2) := by
  have e : sti l s i = (fadd (habs l s (i / 2)).1 (l[i - 1]?.getD 0), (habs l s (i / 2)).2.1, (habs l s (i / 2)).2.2) := by
    unfold sti
    rw [if_neg (by omega), if_neg (by omega)]
  rw [e]
  unfold sti
  rw [if_pos (by omega), show (i + 1) / 2 = i / 2 + 1 by omega, habs_succ]
  unfold hstep stp
  rw [show 2 * (i / 2) = i - 1 by omega, show i - 1 + 1 = i by omega, List.getElem?_eq_getElem (show i < l.length from hl), List.getElem?_eq_getElem (show i - 1 < l.length by omega)]
  rfl
theorem sti_end (xs : List Int) : hst xs = if (fof xs).length = 0 then hmix (0, 0, (xs.length : Int)) else sti (fof xs) (0, 0, xs.length) (fof xs).length := by
  have hl := fof_length xs
  unfold hst
  by_cases h : xs.length = 0
  · rw [if_pos h, if_pos (by omega), h]; rfl
  · rw [if_neg h, if_neg (by omega)]
    unfold sti
    by_cases h2 : (fof xs).length % 2 = 0
    · rw [if_pos h2, show ((fof xs).length + 1) / 2 = (fof xs).length / 2 by omega]
    · rw [if_neg h2, if_pos rfl, show ((fof xs).length + 1) / 2 = (fof xs).length / 2 + 1 by omega]

theorem Add_s' (a b : Int) [IsU a] [IsU b] (w : World) : Calls Try.prog 31 #[.int .u64 a, .int .u64 b] w fun e w' => e = .returned (.int .u64 (fadd a b)) ∧ w' = w :=
  (Add_i a b w).mono fun _ _ h => ⟨h.1, h.2.symm⟩

set_option maxRecDepth 100000 in
set_option maxHeartbeats 4000000 in
theorem steps_walk (A : Option Addr) (c : Nat) (xs : List Int) (w : World) (hs : SI w w.heap.size .u8 A xs) (hc : xs.length ≤ c) (hm : c ≤ maxLen) (hx : ∀ n ∈ xs, (Lit.int .u8 n).wf = true) (h400 : xs.length ≤ 400) :
    Calls Try.prog 9 #[.slice A xs.length c] w fun e w' => e = .returned (.bool true) ∧ Below w.heap.size w w' := by
  have HS := Lib.hid hs
  have HX := Lib.hid (fun n hn => u8_wf (hx n hn))
  have n2 := eq2_same
  have HT := Lib.hid (sti_end xs)
  have HU : Hid (U3 ((0 : Int), (0 : Int), (xs.length : Int))) := ⟨⟨by simp, by simp⟩, ⟨by simp, by simp⟩, by simp, by simp; omega⟩
  unfold maxLen at hm
  clear hs hx
  go_enter Try.func9, Try.ntmps9
  go_wp2_with fail
  refine (live_any _).mono ?_
  rintro e w0 ⟨rfl, hb0⟩
  have HB0 := Lib.hid hb0
  clear hb0
  go_wp2_with fail
  refine (Of_any A c xs HX.out (by omega) hc _ (HS.out.on HB0.out)).mono ?_
  rintro e w1 ⟨v, rfl, hown, hb⟩
  obtain ⟨A1, c1, rfl, hl1, hm1, hs1, hne⟩ := own_slice2 hown
  have HS1 := Lib.hid hs1
  have HF := Lib.hid (fof_el xs HX.out)
  have HL := Lib.hid (fof_length xs)
  have hL : (fof xs).length ≤ 100 := by rw [HL.out]; omega
  have HB1 := Lib.hid (HB0.out.trans (hb.mono HB0.out.size))
  have hz1 := HB1.out.size
  clear hs1 hne hown hb hm1 hl1
  generalize fof xs = l at *
  go_wp2_with fail
  go_loopw [6] (fun i wr => ∃ m : Nat, m ≤ l.length ∧ i = .int .i64 (m : Int) ∧ Blk wr w1.heap.size 23 #[.int .u64 (sti l (0, 0, xs.length) m).1, .int .u64 (sti l (0, 0, xs.length) m).2.1, .int .u64 (sti l (0, 0, xs.length) m).2.2] ∧ SI wr w1.heap.size .u64 A1 l ∧ Below w.heap.size w wr) (fun i _ => l.length - (intOf i).toNat)
  case atStart => exact ⟨0, by omega, rfl, Blk.new_at _ _ _ rfl, HS1.out.below ((Below.refl _ _).alloc (Nat.le_refl _) _), HB1.out.alloc HB1.out.size _⟩
  case round =>
    obtain ⟨m, hm, rfl, k1, ksi, kB⟩ := hrel
    have hU := sti_u l _ HU.out m
    haveI := IsU.of hU.1
    haveI := IsU.of hU.2.1
    haveI := IsU.of hU.2.2
    have lt1 := k1.lt
    obtain ⟨⟨c0, c1, c2⟩, f0, f1, f2⟩ := k1.facts3
    have HI := Lib.hid (And.intro k1 (And.intro ksi kB))
    clear hU
    by_cases h : m < l.length
    · obtain ⟨ad, rfl, had, hcell⟩ := ksi m h
      rw [List.getElem?_eq_getElem h] at hcell
      simp only [Option.getD_some] at hcell
      haveI := IsU.of (HF.out _ (List.getElem_mem h)).u64
      have HNB := Lib.hid (show ad.block ≠ w1.heap.size from Nat.ne_of_lt had)
      obtain ⟨y, hy⟩ : ∃ y, l[m] = y := ⟨_, rfl⟩
      rw [hy] at hcell this
      by_cases hp : m % 2 = 0
      · have t0 : (m : Int).tmod 2 = 0 := by rw [Int.tmod_eq_emod_of_nonneg (by omega)]; omega
        have t1 : (m : Int) % 2 = 0 := by omega
        have K1 := Lib.hid (HI.out.1.set 0 (.int .u64 (fadd (sti l (0, 0, (xs.length : Int)) m).1 y)))
        by_cases hlast : m + 1 = l.length
        · have HE : Hid (sti l (0, 0, (xs.length : Int)) (m + 1) = hmix (fadd (sti l (0, 0, (xs.length : Int)) m).1 y, (sti l (0, 0, (xs.length : Int)) m).2.1, (sti l (0, 0, (xs.length : Int)) m).2.2)) := by rw [Hid, sti_last l _ m hp hlast, hy]
          have hl0 : ((m : Int) == (l.length : Int) - 1) = true := beq_iff_eq.2 (by omega)
          have hle : m + 1 ≤ l.length := by omega
          clear k1 ksi kB hp hy hlast
          go_wp2_with fail
          go_still_tail 12, (by kernel_rfl)
          still_call (Add_s' _ _ _)
          repeat still_step
          refine wpStill_nil ?_
          change wpList _ _ _ _ _ wr.drew
          obtain ⟨W3, hW3⟩ : ∃ W3, (wr.setCell ⟨w1.heap.size, 0, none⟩ (.int .u64 (fadd (sti l (0, 0, (xs.length : Int)) m).1 y))).drew = W3 := ⟨_, rfl⟩
          have KX : Hid (Blk W3 w1.heap.size 23 #[.int .u64 (fadd (sti l (0, 0, (xs.length : Int)) m).1 y), .int .u64 (sti l (0, 0, (xs.length : Int)) m).2.1, .int .u64 (sti l (0, 0, (xs.length : Int)) m).2.2] ∧ SI W3 w1.heap.size .u64 (some ad) l ∧ Below w.heap.size w W3) := by
            rw [← hW3]
            exact ⟨K1.out.drew, HI.out.2.1.set (fun a e => by cases e; exact HNB.out) _, (HI.out.2.2.setCell (by first | omega | (simp; done) | (simp; omega)) _).drew⟩
          obtain ⟨⟨d0, d1, d2⟩, g0, g1, g2⟩ := KX.out.1.facts3
          go_wp2_with fail
          clear hW3 c0 c1 c2 f0 f1 f2 hcell d0 d1 d2 g0 g1 g2
          refine Calls.mono (Mix_any _ _ _ _) ?_
          rintro e w5 ⟨rfl, hb5⟩
          have N1 := KX.out.1.below hb5 KX.out.1.lt
          have KXl := KX.out.1.lt
          have Nsi := KX.out.2.1.below (hb5.mono (by omega))
          have NB := KX.out.2.2.trans (hb5.mono KX.out.2.2.size)
          have HN := Lib.hid (And.intro N1 (And.intro Nsi NB))
          clear hb5 Nsi NB
          obtain ⟨⟨c0, c1, c2⟩, f0, f1, f2⟩ := N1.facts3
          clear N1
          go_wp2_with fail
          go_roundw
          case rel =>
            refine ⟨m + 1, by omega, by go_num, ?_, ((HN.out.2.1.set (fun a e => by cases e; exact HNB.out) _).set (fun a e => by cases e; exact HNB.out) _).set (fun a e => by cases e; exact HNB.out) _, ((HN.out.2.2.setCell (by first | omega | (simp; done) | (simp; omega)) _).setCell (by first | omega | (simp; done) | (simp; omega)) _).setCell (by first | omega | (simp; done) | (simp; omega)) _⟩
            rw [HE.out]
            exact HN.out.1.set3
          case measure => simp [intOf]; omega
        · have HE : Hid (sti l (0, 0, (xs.length : Int)) (m + 1) = (fadd (sti l (0, 0, (xs.length : Int)) m).1 y, (sti l (0, 0, (xs.length : Int)) m).2.1, (sti l (0, 0, (xs.length : Int)) m).2.2)) := by rw [Hid, sti_even l _ m hp (by omega), hy]
          have hl0 : ((m : Int) == (l.length : Int) - 1) = false := beq_eq_false_iff_ne.2 (by omega)
          have hle : m + 1 < l.length := by omega
          clear k1 ksi kB hp hy hlast
          go_wp2_with fail
          go_still_tail 12, (by kernel_rfl)
          still_call (Add_s' _ _ _)
          repeat still_step
          refine wpStill_nil ?_
          change wpList _ _ _ _ _ wr.drew
          obtain ⟨W3, hW3⟩ : ∃ W3, (wr.setCell ⟨w1.heap.size, 0, none⟩ (.int .u64 (fadd (sti l (0, 0, (xs.length : Int)) m).1 y))).drew = W3 := ⟨_, rfl⟩
          have KX : Hid (Blk W3 w1.heap.size 23 #[.int .u64 (fadd (sti l (0, 0, (xs.length : Int)) m).1 y), .int .u64 (sti l (0, 0, (xs.length : Int)) m).2.1, .int .u64 (sti l (0, 0, (xs.length : Int)) m).2.2] ∧ SI W3 w1.heap.size .u64 (some ad) l ∧ Below w.heap.size w W3) := by
            rw [← hW3]
            exact ⟨K1.out.drew, HI.out.2.1.set (fun a e => by cases e; exact HNB.out) _, (HI.out.2.2.setCell (by first | omega | (simp; done) | (simp; omega)) _).drew⟩
          obtain ⟨⟨d0, d1, d2⟩, g0, g1, g2⟩ := KX.out.1.facts3
          go_wp2_with fail
          clear hW3 c0 c1 c2 f0 f1 f2 hcell d0 d1 d2 g0 g1 g2
          go_roundw
          case rel =>
            refine ⟨m + 1, by omega, by go_num, ?_, KX.out.2.1, KX.out.2.2⟩
            rw [HE.out]
            exact KX.out.1
          case measure => simp [intOf]; omega
      · have t0 : (m : Int).tmod 2 = 1 := by rw [Int.tmod_eq_emod_of_nonneg (by omega)]; omega
        have t1 : (m : Int) % 2 = 1 := by omega
        have K1 := Lib.hid (HI.out.1.set 1 (.int .u64 (fadd (sti l (0, 0, (xs.length : Int)) m).2.1 y)))
        have HE : Hid (sti l (0, 0, (xs.length : Int)) (m + 1) = hmix ((sti l (0, 0, (xs.length : Int)) m).1, fadd (sti l (0, 0, (xs.length : Int)) m).2.1 y, (sti l (0, 0, (xs.length : Int)) m).2.2)) := by rw [Hid, sti_odd l _ m (by omega) h, hy]
        clear k1 ksi kB hp hy
        go_wp2_with fail
        go_still_tail 12, (by kernel_rfl)
        still_call (Add_s' _ _ _)
        repeat still_step
        refine wpStill_nil ?_
        change wpList _ _ _ _ _ wr.drew
        obtain ⟨W3, hW3⟩ : ∃ W3, (wr.setCell ⟨w1.heap.size, 1, none⟩ (.int .u64 (fadd (sti l (0, 0, (xs.length : Int)) m).2.1 y))).drew = W3 := ⟨_, rfl⟩
        have KX : Hid (Blk W3 w1.heap.size 23 #[.int .u64 (sti l (0, 0, (xs.length : Int)) m).1, .int .u64 (fadd (sti l (0, 0, (xs.length : Int)) m).2.1 y), .int .u64 (sti l (0, 0, (xs.length : Int)) m).2.2] ∧ SI W3 w1.heap.size .u64 (some ad) l ∧ Below w.heap.size w W3) := by
          rw [← hW3]
          exact ⟨K1.out.drew, HI.out.2.1.set (fun a e => by cases e; exact HNB.out) _, (HI.out.2.2.setCell (by first | omega | (simp; done) | (simp; omega)) _).drew⟩
        obtain ⟨⟨d0, d1, d2⟩, g0, g1, g2⟩ := KX.out.1.facts3
        go_wp2_with fail
        clear hW3 c0 c1 c2 f0 f1 f2 hcell d0 d1 d2 g0 g1 g2
        refine Calls.mono (Mix_any _ _ _ _) ?_
        rintro e w5 ⟨rfl, hb5⟩
        have N1 := KX.out.1.below hb5 KX.out.1.lt
        have KXl := KX.out.1.lt
        have Nsi := KX.out.2.1.below (hb5.mono (by omega))
        have NB := KX.out.2.2.trans (hb5.mono KX.out.2.2.size)
        have HN := Lib.hid (And.intro N1 (And.intro Nsi NB))
        clear hb5 Nsi NB
        obtain ⟨⟨c0, c1, c2⟩, f0, f1, f2⟩ := N1.facts3
        clear N1
        go_wp2_with fail
        go_roundw
        case rel =>
          refine ⟨m + 1, by omega, by go_num, ?_, ((HN.out.2.1.set (fun a e => by cases e; exact HNB.out) _).set (fun a e => by cases e; exact HNB.out) _).set (fun a e => by cases e; exact HNB.out) _, ((HN.out.2.2.setCell (by first | omega | (simp; done) | (simp; omega)) _).setCell (by first | omega | (simp; done) | (simp; omega)) _).setCell (by first | omega | (simp; done) | (simp; omega)) _⟩
          rw [HE.out]
          exact HN.out.1.set3
        case measure => simp [intOf]; omega
    · have hz : ¬ (m : Int) < l.length := by omega
      have hm' : m = l.length := by omega
      have HM := Lib.hid hm'
      by_cases h0 : l.length = 0
      · have hl0 : ((l.length : Int) == 0) = true := beq_iff_eq.2 (by omega)
        have hs0 : Hid (sti l (0, 0, (xs.length : Int)) m = (0, 0, (xs.length : Int))) := by rw [Hid, hm', h0]; rfl
        have HE : Hid (hst xs = hmix (0, 0, (xs.length : Int))) := by rw [Hid, HT.out, if_pos h0]
        haveI : IsU ((xs.length : Nat) : Int) := ⟨by omega, by omega⟩
        rw [hs0.out] at c0 c1 c2
        have HI1 := HI.out.1
        rw [hs0.out] at HI1
        have HJ := Lib.hid (And.intro HI1 HI.out.2.2)
        clear k1 ksi kB hm' h0 HI1 h
        go_wp2_with fail
        refine Calls.mono (Mix_any 0 0 xs.length _) ?_
        rintro e w5 ⟨rfl, hb5⟩
        have N1 := HJ.out.1.below hb5 HJ.out.1.lt
        have HN := Lib.hid (And.intro N1 (HJ.out.2.trans (hb5.mono HJ.out.2.size)))
        clear hb5 c0 c1 c2 f0 f1 f2
        obtain ⟨⟨c0, c1, c2⟩, f0, f1, f2⟩ := N1.facts3
        clear N1
        go_upto_region 16 with (fail)
        refine wp_named (fun W => Blk W w1.heap.size 23 #[.int .u64 (hst xs).1, .int .u64 (hst xs).2.1, .int .u64 (hst xs).2.2] ∧ Below w.heap.size w W) ?_ ?_
        · rw [HE.out]
          exact ⟨HN.out.1.set3, ((HN.out.2.setCell (by first | omega | (simp; done) | (simp; omega)) _).setCell (by first | omega | (simp; done) | (simp; omega)) _).setCell (by first | omega | (simp; done) | (simp; omega)) _⟩
        clear c0 c1 c2 f0 f1 f2
        rintro w7 ⟨j1, jB⟩
        have ltj := j1.lt
        obtain ⟨⟨e0, e1, e2⟩, _, _⟩ := j1.facts3
        have JB := Lib.hid jB
        have hd : w7.heap.size ≤ w7.drew.heap.size := Nat.le_refl _
        clear j1 jB
        go_region_held3 (fun w' => w'.cell? ⟨w1.heap.size, 0, none⟩ = some (.int .u64 (hst xs).1) ∧ w'.cell? ⟨w1.heap.size, 1, none⟩ = some (.int .u64 (hst xs).2.1)) (first | exact ⟨by assumption, by assumption⟩ | go_keep)
          ((go_at_call 16; refine (Sum_any A c xs HX.out (by omega) hc _ (HS.out.on JB.out.drew)).mono ?_; rintro e w8 ⟨rfl, hb⟩; have hW := (Below.refl w7.heap.size w7).drew.trans (hb.mono (by omega)); have k0 := (hW.cell (p := ⟨w1.heap.size, 0, none⟩) ltj).trans e0; have k1 := (hW.cell (p := ⟨w1.heap.size, 1, none⟩) ltj).trans e1))
        all_goals
          go_wp2_with fail
          go_ret
          exact ⟨rfl, JB.out.trans (hW.mono JB.out.size)⟩
      · have hl0 : ((l.length : Int) == 0) = false := beq_eq_false_iff_ne.2 (by omega)
        have HE : Hid (hst xs = sti l (0, 0, (xs.length : Int)) m) := by rw [Hid, HT.out, if_neg h0, hm']
        clear k1 ksi kB hm' h0 h
        go_upto_region 16 with (fail)
        refine wp_named (fun W => Blk W w1.heap.size 23 #[.int .u64 (hst xs).1, .int .u64 (hst xs).2.1, .int .u64 (hst xs).2.2] ∧ Below w.heap.size w W) ?_ ?_
        · rw [HE.out]
          exact ⟨HI.out.1, HI.out.2.2⟩
        clear c0 c1 c2 f0 f1 f2
        rintro w7 ⟨j1, jB⟩
        have ltj := j1.lt
        obtain ⟨⟨e0, e1, e2⟩, _, _⟩ := j1.facts3
        have JB := Lib.hid jB
        have hd : w7.heap.size ≤ w7.drew.heap.size := Nat.le_refl _
        clear j1 jB
        go_region_held3 (fun w' => w'.cell? ⟨w1.heap.size, 0, none⟩ = some (.int .u64 (hst xs).1) ∧ w'.cell? ⟨w1.heap.size, 1, none⟩ = some (.int .u64 (hst xs).2.1)) (first | exact ⟨by assumption, by assumption⟩ | go_keep)
          ((go_at_call 16; refine (Sum_any A c xs HX.out (by omega) hc _ (HS.out.on JB.out.drew)).mono ?_; rintro e w8 ⟨rfl, hb⟩; have hW := (Below.refl w7.heap.size w7).drew.trans (hb.mono (by omega)); have k0 := (hW.cell (p := ⟨w1.heap.size, 0, none⟩) ltj).trans e0; have k1 := (hW.cell (p := ⟨w1.heap.size, 1, none⟩) ltj).trans e1))
        all_goals
          go_wp2_with fail
          go_ret
          exact ⟨rfl, JB.out.trans (hW.mono JB.out.size)⟩

theorem steps_all (A : Option Addr) (c : Nat) (xs : List Int) (w : World) (hs : SI w w.heap.size .u8 A xs) (hc : xs.length ≤ c) (hm : c ≤ maxLen) (hx : ∀ n ∈ xs, (Lit.int .u8 n).wf = true) :
    Calls Try.prog 9 #[.slice A xs.length c] w fun e w' => e = .returned (.bool true) ∧ Below w.heap.size w w' := by
  by_cases h1 : xs.length ≤ 400
  · exact steps_walk A c xs w hs hc hm hx h1
  · clear hs hx
    unfold maxLen at hm
    go_enter Try.func9, Try.ntmps9
    go_wp2_with fail
    refine (live_any _).mono ?_
    rintro e w1 ⟨rfl, hb1⟩
    have HB1 := Lib.hid hb1
    clear hb1
    go_wp2_with fail
    go_ret
    exact ⟨rfl, HB1.out⟩
end Go.Proofs.Ytjcanehlnggffaa

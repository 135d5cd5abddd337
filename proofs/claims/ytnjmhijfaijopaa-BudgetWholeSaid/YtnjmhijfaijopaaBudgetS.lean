/- The document's Check and Left. (Printed by tools/gen_budget_s.py.) -/
import Derived.Test.YtnjmhijfaijopaaBudgetR
namespace Go.Proofs.Ytnjmhijfaijopaa
open Go.ChangeShapes Go.WideShapes Go.ChangeAt Go.RowKit Gs
set_option linter.unusedVariables false
set_option linter.unusedSimpArgs false

set_option maxHeartbeats 16000000 in
set_option maxRecDepth 20000 in
theorem refCheck17_any (A : Option Addr) (c : Nat) (L : List Sp) (hl : L.length ≤ 70368744177664) (w : World) (hs : QS w w.heap.size A L) :
    Calls Try.prog 14 #[.slice A L.length c] w fun e w' => e = .returned (.int .i64 (chkS L)) ∧ Below w.heap.size w w' := by
  have HS := Lib.hid hs
  clear hs
  go_enter Try.func14, Try.ntmps14
  go_wp2_with fail
  go_loopw [3] (fun i wr => ∃ k : Nat, k ≤ L.length ∧ i = .int .i64 k ∧ okS (prevS L k) (L.drop k) = okS none L ∧ Below w.heap.size w wr) (fun i _ => L.length - (intOf i).toNat)
  case atStart => exact ⟨0, by omega, rfl, rfl, Below.refl _ _⟩
  case round =>
    obtain ⟨k, hk, rfl, hok, hb⟩ := hrel
    have HB := Lib.hid hb
    have HK := Lib.hid hok
    clear hb hok
    by_cases hlt : k < L.length
    · obtain ⟨ad, rfl, had, c0, c1, c2, c3⟩ := (HS.out.below HB.out) k hlt
      have HN := Lib.hid (prevS_succ k hlt)
      by_cases hk0 : k = 0
      · have HF := Lib.hid (show okS none L = (mayS L[k].1 L[k].2.1 L[k].2.2.1 L[k].2.2.2 && okS (some (L[k].1, L[k].2.1)) (L.drop (k + 1))) from by subst hk0; exact okS_first hlt)
        have g4 : decide (0 < (k : Int)) = false := decide_eq_false (by omega)
        have g3 : decide (0 < k) = false := decide_eq_false (by omega)
        clear hk0
        generalize L[k].1 = a, L[k].2.1 = r, L[k].2.2.1 = s, L[k].2.2.2 = m at c0 c1 c2 c3 HN HF
        have P1 := Lib.hid (number17_any a)
        have P2 := Lib.hid (numbered17_any r)
        have P3 := Lib.hid (number17_any s)
        have P4 := Lib.hid (number17_any m)
        have HM := Lib.hid (show mayS a r s m = (nmB a && rlB r && nmB s && nmB m && decide (0 < m)) from rfl)
        generalize nmB a = b1, rlB r = b2, nmB s = b3, nmB m = b4 at P1 P2 P3 P4 HM
        have B1 := Lib.hid (HB.out.alloc HB.out.size (.cells #[.int .i64 a, .int .i64 r, .int .i64 s, .int .i64 m] 45))
        have X := Lib.hid (Blk.new wr 45 #[.int .i64 a, .int .i64 r, .int .i64 s, .int .i64 m])
        have x0 : (wr.alloc (.cells #[.int .i64 a, .int .i64 r, .int .i64 s, .int .i64 m] 45)).cell? ⟨wr.heap.size, 0, none⟩ = some (.int .i64 a) := X.out.cell 0
        have x1 : (wr.alloc (.cells #[.int .i64 a, .int .i64 r, .int .i64 s, .int .i64 m] 45)).cell? ⟨wr.heap.size, 1, none⟩ = some (.int .i64 r) := X.out.cell 1
        have x2 : (wr.alloc (.cells #[.int .i64 a, .int .i64 r, .int .i64 s, .int .i64 m] 45)).cell? ⟨wr.heap.size, 2, none⟩ = some (.int .i64 s) := X.out.cell 2
        have x3 : (wr.alloc (.cells #[.int .i64 a, .int .i64 r, .int .i64 s, .int .i64 m] 45)).cell? ⟨wr.heap.size, 3, none⟩ = some (.int .i64 m) := X.out.cell 3
        cases b1 with
        | false =>
          have HE := Lib.hid (show chkS L = 1 from chkS_bad (by rw [HF.out, HM.out]; simp))
          go_wp2_with fail
          (with_reducible refine (P1.out _).mono ?_)
          rintro e _ ⟨rfl, rfl⟩
          go_wp2_with fail
          go_ret
          exact ⟨by rw [HE.out]; rfl, B1.out⟩
        | true =>
          cases b2 with
          | false =>
            have HE := Lib.hid (show chkS L = 1 from chkS_bad (by rw [HF.out, HM.out]; simp))
            go_wp2_with fail
            (with_reducible refine (P1.out _).mono ?_)
            rintro e _ ⟨rfl, rfl⟩
            go_wp2_with fail
            (with_reducible refine (P2.out _).mono ?_)
            rintro e _ ⟨rfl, rfl⟩
            go_wp2_with fail
            go_ret
            exact ⟨by rw [HE.out]; rfl, B1.out⟩
          | true =>
            cases b3 with
            | false =>
              have HE := Lib.hid (show chkS L = 1 from chkS_bad (by rw [HF.out, HM.out]; simp))
              go_wp2_with fail
              (with_reducible refine (P1.out _).mono ?_)
              rintro e _ ⟨rfl, rfl⟩
              go_wp2_with fail
              (with_reducible refine (P2.out _).mono ?_)
              rintro e _ ⟨rfl, rfl⟩
              go_wp2_with fail
              (with_reducible refine (P3.out _).mono ?_)
              rintro e _ ⟨rfl, rfl⟩
              go_wp2_with fail
              go_ret
              exact ⟨by rw [HE.out]; rfl, B1.out⟩
            | true =>
              cases b4 with
              | false =>
                have HE := Lib.hid (show chkS L = 1 from chkS_bad (by rw [HF.out, HM.out]; simp))
                go_wp2_with fail
                (with_reducible refine (P1.out _).mono ?_)
                rintro e _ ⟨rfl, rfl⟩
                go_wp2_with fail
                (with_reducible refine (P2.out _).mono ?_)
                rintro e _ ⟨rfl, rfl⟩
                go_wp2_with fail
                (with_reducible refine (P3.out _).mono ?_)
                rintro e _ ⟨rfl, rfl⟩
                go_wp2_with fail
                (with_reducible refine (P4.out _).mono ?_)
                rintro e _ ⟨rfl, rfl⟩
                go_wp2_with fail
                go_ret
                exact ⟨by rw [HE.out]; rfl, B1.out⟩
              | true =>
                by_cases hm0 : m < 1
                · have gm : decide (m < 1) = true := decide_eq_true hm0
                  have HE := Lib.hid (show chkS L = 1 from chkS_bad (by rw [HF.out, HM.out, decide_eq_false (by omega : ¬ 0 < m)]; simp))
                  go_wp2_with fail
                  (with_reducible refine (P1.out _).mono ?_)
                  rintro e _ ⟨rfl, rfl⟩
                  go_wp2_with fail
                  (with_reducible refine (P2.out _).mono ?_)
                  rintro e _ ⟨rfl, rfl⟩
                  go_wp2_with fail
                  (with_reducible refine (P3.out _).mono ?_)
                  rintro e _ ⟨rfl, rfl⟩
                  go_wp2_with fail
                  (with_reducible refine (P4.out _).mono ?_)
                  rintro e _ ⟨rfl, rfl⟩
                  go_wp2_with fail
                  go_ret
                  exact ⟨by rw [HE.out]; rfl, B1.out⟩
                have gm : decide (m < 1) = false := decide_eq_false hm0
                have HMT := Lib.hid (show mayS a r s m = true from by rw [HM.out, decide_eq_true (by omega : 0 < m)]; rfl)
                have HNX := Lib.hid (show okS (some (a, r)) (L.drop (k + 1)) = okS none L from by rw [HF.out, HMT.out]; rfl)
                go_wp2_with fail
                (with_reducible refine (P1.out _).mono ?_)
                rintro e _ ⟨rfl, rfl⟩
                go_wp2_with fail
                (with_reducible refine (P2.out _).mono ?_)
                rintro e _ ⟨rfl, rfl⟩
                go_wp2_with fail
                (with_reducible refine (P3.out _).mono ?_)
                rintro e _ ⟨rfl, rfl⟩
                go_wp2_with fail
                (with_reducible refine (P4.out _).mono ?_)
                rintro e _ ⟨rfl, rfl⟩
                go_wp2_with fail
                go_quiet (fail)
                go_wp2_with fail
                go_roundw
                case rel => exact ⟨k + 1, by omega, by go_num, by rw [HN.out]; exact HNX.out, below_drewN B1.out _⟩
                case measure => simp [intOf]; omega
      · obtain ⟨j, hj⟩ : ∃ j, k = j + 1 := ⟨k - 1, by omega⟩
        have hjl : j < L.length := by omega
        obtain ⟨ad', e', -, d0, d1, d2, d3⟩ := (HS.out.below HB.out) j hjl
        cases e'
        have HP := Lib.hid (show prevS L k = some (L[j].1, L[j].2.1) from by rw [hj]; exact prevS_succ j hjl)
        have HF := Lib.hid (show okS (prevS L k) (L.drop k) = ((mayS L[k].1 L[k].2.1 L[k].2.2.1 L[k].2.2.2 && ltO L[j].1 L[j].2.1 L[k].1 L[k].2.1) && okS (some (L[k].1, L[k].2.1)) (L.drop (k + 1))) from by rw [HP.out]; exact okS_next k hlt (L[j].1, L[j].2.1))
        have hw1 : IntKind.i64.wrap ((k : Int) - 1) = (j : Int) := by rw [show (k : Int) - 1 = (j : Int) by omega]; exact IntWalk.i64_in _ (by omega)
        have g4 : decide (0 < (k : Int)) = true := decide_eq_true (by omega)
        have g3 : decide (0 < k) = true := decide_eq_true (by omega)
        have hj0 : (0 : Int) ≤ (j : Int) := by omega
        have hjk : (j : Int) < (L.length : Int) := by omega
        have ld : (ad.add (j * 4)).block < wr.heap.size := by rw [block_of_add]; have := HB.out.size; omega
        clear hj hk0 HP d2 d3
        generalize L[j].1 = pa, L[j].2.1 = pr at d0 d1 HF
        generalize L[k].1 = a, L[k].2.1 = r, L[k].2.2.1 = s, L[k].2.2.2 = m at c0 c1 c2 c3 HN HF
        have P1 := Lib.hid (number17_any a)
        have P2 := Lib.hid (numbered17_any r)
        have P3 := Lib.hid (number17_any s)
        have P4 := Lib.hid (number17_any m)
        have HM := Lib.hid (show mayS a r s m = (nmB a && rlB r && nmB s && nmB m && decide (0 < m)) from rfl)
        generalize nmB a = b1, rlB r = b2, nmB s = b3, nmB m = b4 at P1 P2 P3 P4 HM
        have B1 := Lib.hid (HB.out.alloc HB.out.size (.cells #[.int .i64 a, .int .i64 r, .int .i64 s, .int .i64 m] 45))
        have X := Lib.hid (Blk.new wr 45 #[.int .i64 a, .int .i64 r, .int .i64 s, .int .i64 m])
        have x0 : (wr.alloc (.cells #[.int .i64 a, .int .i64 r, .int .i64 s, .int .i64 m] 45)).cell? ⟨wr.heap.size, 0, none⟩ = some (.int .i64 a) := X.out.cell 0
        have x1 : (wr.alloc (.cells #[.int .i64 a, .int .i64 r, .int .i64 s, .int .i64 m] 45)).cell? ⟨wr.heap.size, 1, none⟩ = some (.int .i64 r) := X.out.cell 1
        have x2 : (wr.alloc (.cells #[.int .i64 a, .int .i64 r, .int .i64 s, .int .i64 m] 45)).cell? ⟨wr.heap.size, 2, none⟩ = some (.int .i64 s) := X.out.cell 2
        have x3 : (wr.alloc (.cells #[.int .i64 a, .int .i64 r, .int .i64 s, .int .i64 m] 45)).cell? ⟨wr.heap.size, 3, none⟩ = some (.int .i64 m) := X.out.cell 3
        have y0 := (World.cell?_alloc_lt wr (.cells #[.int .i64 a, .int .i64 r, .int .i64 s, .int .i64 m] 45) _ (show (ad.add (j * 4)).block < wr.heap.size from ld)).trans d0
        have y1 := (World.cell?_alloc_lt wr (.cells #[.int .i64 a, .int .i64 r, .int .i64 s, .int .i64 m] 45) ⟨(ad.add (j * 4)).block, (ad.add (j * 4)).off + 1, none⟩ ld).trans d1
        cases b1 with
        | false =>
          have HE := Lib.hid (show chkS L = 1 from chkS_bad (by rw [← HK.out, HF.out, HM.out]; simp))
          go_wp2_with fail
          (with_reducible refine (P1.out _).mono ?_)
          rintro e _ ⟨rfl, rfl⟩
          go_wp2_with fail
          go_ret
          exact ⟨by rw [HE.out]; rfl, B1.out⟩
        | true =>
          cases b2 with
          | false =>
            have HE := Lib.hid (show chkS L = 1 from chkS_bad (by rw [← HK.out, HF.out, HM.out]; simp))
            go_wp2_with fail
            (with_reducible refine (P1.out _).mono ?_)
            rintro e _ ⟨rfl, rfl⟩
            go_wp2_with fail
            (with_reducible refine (P2.out _).mono ?_)
            rintro e _ ⟨rfl, rfl⟩
            go_wp2_with fail
            go_ret
            exact ⟨by rw [HE.out]; rfl, B1.out⟩
          | true =>
            cases b3 with
            | false =>
              have HE := Lib.hid (show chkS L = 1 from chkS_bad (by rw [← HK.out, HF.out, HM.out]; simp))
              go_wp2_with fail
              (with_reducible refine (P1.out _).mono ?_)
              rintro e _ ⟨rfl, rfl⟩
              go_wp2_with fail
              (with_reducible refine (P2.out _).mono ?_)
              rintro e _ ⟨rfl, rfl⟩
              go_wp2_with fail
              (with_reducible refine (P3.out _).mono ?_)
              rintro e _ ⟨rfl, rfl⟩
              go_wp2_with fail
              go_ret
              exact ⟨by rw [HE.out]; rfl, B1.out⟩
            | true =>
              cases b4 with
              | false =>
                have HE := Lib.hid (show chkS L = 1 from chkS_bad (by rw [← HK.out, HF.out, HM.out]; simp))
                go_wp2_with fail
                (with_reducible refine (P1.out _).mono ?_)
                rintro e _ ⟨rfl, rfl⟩
                go_wp2_with fail
                (with_reducible refine (P2.out _).mono ?_)
                rintro e _ ⟨rfl, rfl⟩
                go_wp2_with fail
                (with_reducible refine (P3.out _).mono ?_)
                rintro e _ ⟨rfl, rfl⟩
                go_wp2_with fail
                (with_reducible refine (P4.out _).mono ?_)
                rintro e _ ⟨rfl, rfl⟩
                go_wp2_with fail
                go_ret
                exact ⟨by rw [HE.out]; rfl, B1.out⟩
              | true =>
                by_cases hm0 : m < 1
                · have gm : decide (m < 1) = true := decide_eq_true hm0
                  have HE := Lib.hid (show chkS L = 1 from chkS_bad (by rw [← HK.out, HF.out, HM.out, decide_eq_false (by omega : ¬ 0 < m)]; simp))
                  go_wp2_with fail
                  (with_reducible refine (P1.out _).mono ?_)
                  rintro e _ ⟨rfl, rfl⟩
                  go_wp2_with fail
                  (with_reducible refine (P2.out _).mono ?_)
                  rintro e _ ⟨rfl, rfl⟩
                  go_wp2_with fail
                  (with_reducible refine (P3.out _).mono ?_)
                  rintro e _ ⟨rfl, rfl⟩
                  go_wp2_with fail
                  (with_reducible refine (P4.out _).mono ?_)
                  rintro e _ ⟨rfl, rfl⟩
                  go_wp2_with fail
                  go_ret
                  exact ⟨by rw [HE.out]; rfl, B1.out⟩
                have gm : decide (m < 1) = false := decide_eq_false hm0
                have HMT := Lib.hid (show mayS a r s m = true from by rw [HM.out, decide_eq_true (by omega : 0 < m)]; rfl)
                by_cases h1 : a < pa
                · have q1 : decide (a < pa) = true := decide_eq_true h1
                  have HE := Lib.hid (show chkS L = 1 from chkS_bad (by rw [← HK.out, HF.out, HMT.out, show ltO pa pr a r = false by rw [← Bool.not_eq_true, ltO_iff]; omega]; rfl))
                  go_wp2_with fail
                  (with_reducible refine (P1.out _).mono ?_)
                  rintro e _ ⟨rfl, rfl⟩
                  go_wp2_with fail
                  (with_reducible refine (P2.out _).mono ?_)
                  rintro e _ ⟨rfl, rfl⟩
                  go_wp2_with fail
                  (with_reducible refine (P3.out _).mono ?_)
                  rintro e _ ⟨rfl, rfl⟩
                  go_wp2_with fail
                  (with_reducible refine (P4.out _).mono ?_)
                  rintro e _ ⟨rfl, rfl⟩
                  go_wp2_with fail
                  go_quiet (fail)
                  go_wp2_with fail
                  go_ret
                  exact ⟨by rw [HE.out]; rfl, below_drewN B1.out _⟩
                have q1 : decide (a < pa) = false := decide_eq_false h1
                by_cases h2 : pa = a
                · have q2 : (pa == a) = true := by simpa using h2
                  by_cases h3 : r ≤ pr
                  · have q3 : decide (r ≤ pr) = true := decide_eq_true h3
                    have HE := Lib.hid (show chkS L = 1 from chkS_bad (by rw [← HK.out, HF.out, HMT.out, show ltO pa pr a r = false by rw [← Bool.not_eq_true, ltO_iff]; omega]; rfl))
                    clear h2
                    go_wp2_with fail
                    (with_reducible refine (P1.out _).mono ?_)
                    rintro e _ ⟨rfl, rfl⟩
                    go_wp2_with fail
                    (with_reducible refine (P2.out _).mono ?_)
                    rintro e _ ⟨rfl, rfl⟩
                    go_wp2_with fail
                    (with_reducible refine (P3.out _).mono ?_)
                    rintro e _ ⟨rfl, rfl⟩
                    go_wp2_with fail
                    (with_reducible refine (P4.out _).mono ?_)
                    rintro e _ ⟨rfl, rfl⟩
                    go_wp2_with fail
                    go_quiet (fail)
                    go_wp2_with fail
                    go_ret
                    exact ⟨by rw [HE.out]; rfl, below_drewN B1.out _⟩
                  · have q3 : decide (r ≤ pr) = false := decide_eq_false h3
                    have HNX := Lib.hid (show okS (some (a, r)) (L.drop (k + 1)) = okS none L from by rw [← HK.out, HF.out, HMT.out, show ltO pa pr a r = true by rw [ltO_iff]; omega]; rfl)
                    clear h2
                    go_wp2_with fail
                    (with_reducible refine (P1.out _).mono ?_)
                    rintro e _ ⟨rfl, rfl⟩
                    go_wp2_with fail
                    (with_reducible refine (P2.out _).mono ?_)
                    rintro e _ ⟨rfl, rfl⟩
                    go_wp2_with fail
                    (with_reducible refine (P3.out _).mono ?_)
                    rintro e _ ⟨rfl, rfl⟩
                    go_wp2_with fail
                    (with_reducible refine (P4.out _).mono ?_)
                    rintro e _ ⟨rfl, rfl⟩
                    go_wp2_with fail
                    go_quiet (fail)
                    go_wp2_with fail
                    go_roundw
                    case rel => exact ⟨k + 1, by omega, by go_num, by rw [HN.out]; exact HNX.out, below_drewN B1.out _⟩
                    case measure => simp [intOf]; omega
                · have q2 : (pa == a) = false := by simpa using h2
                  have HNX := Lib.hid (show okS (some (a, r)) (L.drop (k + 1)) = okS none L from by rw [← HK.out, HF.out, HMT.out, show ltO pa pr a r = true by rw [ltO_iff]; omega]; rfl)
                  go_wp2_with fail
                  (with_reducible refine (P1.out _).mono ?_)
                  rintro e _ ⟨rfl, rfl⟩
                  go_wp2_with fail
                  (with_reducible refine (P2.out _).mono ?_)
                  rintro e _ ⟨rfl, rfl⟩
                  go_wp2_with fail
                  (with_reducible refine (P3.out _).mono ?_)
                  rintro e _ ⟨rfl, rfl⟩
                  go_wp2_with fail
                  (with_reducible refine (P4.out _).mono ?_)
                  rintro e _ ⟨rfl, rfl⟩
                  go_wp2_with fail
                  go_quiet (fail)
                  go_wp2_with fail
                  go_roundw
                  case rel => exact ⟨k + 1, by omega, by go_num, by rw [HN.out]; exact HNX.out, below_drewN B1.out _⟩
                  case measure => simp [intOf]; omega
    · obtain rfl : k = L.length := by omega
      have HG := Lib.hid (chkS_good (L := L) (by rw [← HK.out, List.drop_length]; cases prevS L L.length <;> rfl))
      by_cases h64 : 1024 < L.length
      · rw [if_pos h64] at HG
        go_wp2_with fail
        go_ret
        exact ⟨by rw [HG.out]; rfl, HB.out⟩
      · rw [if_neg h64] at HG
        go_wp2_with fail
        go_ret
        exact ⟨by rw [HG.out]; rfl, HB.out⟩
end Go.Proofs.Ytnjmhijfaijopaa

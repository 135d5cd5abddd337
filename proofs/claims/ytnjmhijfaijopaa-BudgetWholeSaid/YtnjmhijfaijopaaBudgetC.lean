/- Contracts of budget: Check. -/
import Derived.Test.YtnjmhijfaijopaaBudgetB
namespace Go.Proofs.Ytnjmhijfaijopaa
open Go.ChangeShapes Go.WideShapes Go.ChangeAt Go.RowKit Gs
set_option linter.unusedVariables false

theorem Blk.facts4 {w : World} {g : Nat} {t : TypeId} {x y z u : Value} (h : Blk w g t #[x, y, z, u]) : (w.cell? ⟨g, 0, none⟩ = some x ∧ w.cell? ⟨g, 1, none⟩ = some y ∧ w.cell? ⟨g, 2, none⟩ = some z ∧ w.cell? ⟨g, 3, none⟩ = some u) ∧ w.frozen? ⟨g, 0, none⟩ = false ∧ w.frozen? ⟨g, 1, none⟩ = false ∧ w.frozen? ⟨g, 2, none⟩ = false ∧ w.frozen? ⟨g, 3, none⟩ = false :=
  ⟨⟨h.cell 0, h.cell 1, h.cell 2, h.cell 3⟩, h.free 0, h.free 1, h.free 2, h.free 3⟩

set_option maxHeartbeats 8000000 in
set_option maxRecDepth 20000 in
theorem Check17_any (A : Option Addr) (c : Nat) (L : List Sp) (hl : L.length ≤ 70368744177664) (w : World) (hs : QS w w.heap.size A L) :
    Calls Try.prog 13 #[.slice A L.length c] w fun e w' => e = .returned (.int .i64 (chkS L)) ∧ Below w.heap.size w w' := by
  have HS := Lib.hid hs
  clear hs
  go_enter Try.func13, Try.ntmps13
  go_wp2_with fail
  go_loopw [7] (fun i wr => ∃ k : Nat, k ≤ L.length ∧ i = .int .i64 k ∧ okS (prevS L k) (L.drop k) = okS none L ∧ Below w.heap.size w wr) (fun i _ => L.length - (intOf i).toNat)
  case atStart => exact ⟨0, by omega, rfl, rfl, Below.refl _ _⟩
  case round =>
    obtain ⟨k, hk, rfl, hok, hb⟩ := hrel
    have HB := Lib.hid hb
    have HK := Lib.hid hok
    clear hb hok
    by_cases hlt : k < L.length
    · obtain ⟨ad, rfl, had, c0, c1, c2, c3⟩ := (HS.out.below HB.out) k hlt
      have HN := Lib.hid (prevS_succ k hlt)
      have PM := Lib.hid (mayBe_any L[k].1 L[k].2.1 L[k].2.2.1 L[k].2.2.2)
      by_cases hk0 : k = 0
      · have HF := Lib.hid (show okS none L = (mayS L[k].1 L[k].2.1 L[k].2.2.1 L[k].2.2.2 && okS (some (L[k].1, L[k].2.1)) (L.drop (k + 1))) from by subst hk0; exact okS_first hlt)
        have g4 : decide (0 < (k : Int)) = false := decide_eq_false (by omega)
        have g3 : decide (0 < k) = false := decide_eq_false (by omega)
        clear hk0
        generalize L[k].1 = a, L[k].2.1 = r, L[k].2.2.1 = s, L[k].2.2.2 = m at c0 c1 c2 c3 HN PM HF
        have B1 := Lib.hid (HB.out.alloc HB.out.size (.cells #[.int .i64 a, .int .i64 r, .int .i64 s, .int .i64 m] 45))
        have X := Lib.hid (Blk.new wr 45 #[.int .i64 a, .int .i64 r, .int .i64 s, .int .i64 m])
        have HX := Lib.hid ((Below.refl wr.heap.size wr).alloc (Nat.le_refl _) (.cells #[.int .i64 a, .int .i64 r, .int .i64 s, .int .i64 m] 45))
        cases hm : mayS a r s m with
        | false =>
          have HE := Lib.hid (chkS_bad (L := L) (by rw [HF.out, hm]; rfl))
          rw [hm] at PM
          clear hm
          go_wp2_with fail
          generalize wr.alloc (.cells #[.int .i64 a, .int .i64 r, .int .i64 s, .int .i64 m] 45) = wX at B1 X HX ⊢
          obtain ⟨⟨x0, x1, x2, x3⟩, x4, x5, x6, x7⟩ := X.out.facts4
          have lx := X.out.lt
          have hW := (Below.refl wX.heap.size wX).drew
          have hun : undef = Value.tuple #[] := rfl
          first | (go_loud (go_region_with
            (first
              | (go_at_call 23; refine (PM.out _).mono ?_; rintro _ wx ⟨rfl, b⟩; have hW := below_on hW b)))) | fail "x"
          all_goals (try go_wp2_with fail)
          all_goals go_ret
          all_goals exact ⟨by rw [HE.out]; rfl, below_on B1.out hW⟩
        | true =>
          have HO := Lib.hid (show okS (some (a, r)) (L.drop (k + 1)) = okS none L by rw [HF.out, hm]; rfl)
          rw [hm] at PM
          clear hm
          go_wp2_with fail
          generalize wr.alloc (.cells #[.int .i64 a, .int .i64 r, .int .i64 s, .int .i64 m] 45) = wX at B1 X HX ⊢
          obtain ⟨⟨x0, x1, x2, x3⟩, x4, x5, x6, x7⟩ := X.out.facts4
          have lx := X.out.lt
          have hW := (Below.refl wX.heap.size wX).drew
          first | (go_loud (go_region_with
            (first
              | (go_at_call 23; refine (PM.out _).mono ?_; rintro _ wx ⟨rfl, b⟩; have hW := below_on hW b)))) | fail "x"
          all_goals (try go_wp2_with fail)
          all_goals go_roundw
          all_goals first | exact ⟨k + 1, by omega, by go_num, by rw [HN.out]; exact HO.out, below_on B1.out hW⟩ | (simp [intOf]; omega)
      · obtain ⟨j, hj⟩ : ∃ j, k = j + 1 := ⟨k - 1, by omega⟩
        have hjl : j < L.length := by omega
        obtain ⟨ad', e', -, d0, d1, d2, d3⟩ := (HS.out.below HB.out) j hjl
        cases e'
        have HP := Lib.hid (show prevS L k = some (L[j].1, L[j].2.1) from by rw [hj]; exact prevS_succ j hjl)
        have HF := Lib.hid (okS_next k hlt (L[j].1, L[j].2.1))
        have PO1 := Lib.hid (ownerOf_any L[j].1 L[j].2.1 L[j].2.2.1 L[j].2.2.2)
        have PO2 := Lib.hid (ownerOf_any L[k].1 L[k].2.1 L[k].2.2.1 L[k].2.2.2)
        have PC := Lib.hid (compare_any L[j].1 L[j].2.1 L[k].1 L[k].2.1)
        have HG := Lib.hid (@cmpO_ge L[j].1 L[j].2.1 L[k].1 L[k].2.1)
        have hw1 : IntKind.i64.wrap ((k : Int) - 1) = (j : Int) := by rw [show (k : Int) - 1 = (j : Int) by omega]; exact IntWalk.i64_in _ (by omega)
        have g4 : decide (0 < (k : Int)) = true := decide_eq_true (by omega)
        have g3 : decide (0 < k) = true := decide_eq_true (by omega)
        have HJ := Lib.hid hj
        have ld : (ad.add (j * 4)).block < wr.heap.size := by rw [block_of_add]; have := HB.out.size; omega
        clear hj hk0
        generalize L[j].1 = pa, L[j].2.1 = pr, L[j].2.2.1 = ps, L[j].2.2.2 = pm at d0 d1 d2 d3 HP HF PO1 PC HG
        generalize L[k].1 = a, L[k].2.1 = r, L[k].2.2.1 = s, L[k].2.2.2 = m at c0 c1 c2 c3 HN PM HF PO2 PC HG
        rw [HP.out] at HK
        rw [HF.out] at HK
        have B1 := Lib.hid (HB.out.alloc HB.out.size (.cells #[.int .i64 a, .int .i64 r, .int .i64 s, .int .i64 m] 45))
        have X := Lib.hid (Blk.new wr 45 #[.int .i64 a, .int .i64 r, .int .i64 s, .int .i64 m])
        have HX := Lib.hid ((Below.refl wr.heap.size wr).alloc (Nat.le_refl _) (.cells #[.int .i64 a, .int .i64 r, .int .i64 s, .int .i64 m] 45))
        cases hm : mayS a r s m with
        | false =>
          have HE := Lib.hid (chkS_bad (L := L) (by rw [← HK.out, hm]; rfl))
          rw [hm] at PM
          clear hm
          go_wp2_with fail
          generalize wr.alloc (.cells #[.int .i64 a, .int .i64 r, .int .i64 s, .int .i64 m] 45) = wX at B1 X HX ⊢
          obtain ⟨⟨x0, x1, x2, x3⟩, x4, x5, x6, x7⟩ := X.out.facts4
          have lx := X.out.lt
          have hW := (Below.refl wX.heap.size wX).drew
          have hun : undef = Value.tuple #[] := rfl
          first | (go_loud (go_region_with
            (first
              | (go_at_call 23; refine (PM.out _).mono ?_; rintro _ wx ⟨rfl, b⟩; have hW := below_on hW b)))) | fail "x"
          all_goals (try go_wp2_with fail)
          all_goals go_ret
          all_goals exact ⟨by rw [HE.out]; rfl, below_on B1.out hW⟩
        | true =>
          rw [hm] at PM
          generalize cmpO pa pr a r = o at PC HG
          by_cases ho : 0 ≤ o
          · have g5 : decide (0 ≤ o) = true := decide_eq_true ho
            have HE := Lib.hid (chkS_bad (L := L) (by rw [← HK.out, hm, HG.out.1 ho]; rfl))
            clear hm
            go_wp2_with fail
            generalize wr.alloc (.cells #[.int .i64 a, .int .i64 r, .int .i64 s, .int .i64 m] 45) = wX at B1 X HX ⊢
            obtain ⟨⟨x0, x1, x2, x3⟩, x4, x5, x6, x7⟩ := X.out.facts4
            have lx := X.out.lt
            have hW := (Below.refl wX.heap.size wX).drew
            have y0 := (HX.out.cell (p := (ad.add (j * 4))) ld).trans d0
            have y1 := (HX.out.cell (p := ⟨(ad.add (j * 4)).block, (ad.add (j * 4)).off + 1, none⟩) ld).trans d1
            have y2 := (HX.out.cell (p := ⟨(ad.add (j * 4)).block, (ad.add (j * 4)).off + 2, none⟩) ld).trans d2
            have y3 := (HX.out.cell (p := ⟨(ad.add (j * 4)).block, (ad.add (j * 4)).off + 3, none⟩) ld).trans d3
            have ldX : (ad.add (j * 4)).block < wX.heap.size := Nat.lt_of_lt_of_le ld HX.out.size
            first | (go_loud (go_region_held_law (fun w' => w'.cell? ⟨wr.heap.size, 0, none⟩ = some (.int .i64 a) ∧ w'.cell? ⟨wr.heap.size, 1, none⟩ = some (.int .i64 r) ∧ w'.cell? ⟨wr.heap.size, 2, none⟩ = some (.int .i64 s) ∧ w'.cell? ⟨wr.heap.size, 3, none⟩ = some (.int .i64 m) ∧ w'.cell? (ad.add (j * 4)) = some (.int .i64 pa) ∧ w'.cell? ⟨(ad.add (j * 4)).block, (ad.add (j * 4)).off + 1, none⟩ = some (.int .i64 pr) ∧ w'.cell? ⟨(ad.add (j * 4)).block, (ad.add (j * 4)).off + 2, none⟩ = some (.int .i64 ps) ∧ w'.cell? ⟨(ad.add (j * 4)).block, (ad.add (j * 4)).off + 3, none⟩ = some (.int .i64 pm)) (first | exact ⟨by assumption, by assumption, by assumption, by assumption, by assumption, by assumption, by assumption, by assumption⟩ | go_keep)
            (first
              | (go_at_call 23; with_reducible refine (PM.out _).mono ?_; rintro _ wx ⟨rfl, b⟩; have hW := below_on hW b; have x0x := (hW.cell (p := ⟨wr.heap.size, 0, none⟩) lx).trans x0; have x1x := (hW.cell (p := ⟨wr.heap.size, 1, none⟩) lx).trans x1; have x2x := (hW.cell (p := ⟨wr.heap.size, 2, none⟩) lx).trans x2; have x3x := (hW.cell (p := ⟨wr.heap.size, 3, none⟩) lx).trans x3; have y0x := (hW.cell (p := (ad.add (j * 4))) ldX).trans y0; have y1x := (hW.cell (p := ⟨(ad.add (j * 4)).block, (ad.add (j * 4)).off + 1, none⟩) ldX).trans y1; have y2x := (hW.cell (p := ⟨(ad.add (j * 4)).block, (ad.add (j * 4)).off + 2, none⟩) ldX).trans y2; have y3x := (hW.cell (p := ⟨(ad.add (j * 4)).block, (ad.add (j * 4)).off + 3, none⟩) ldX).trans y3)
              | (go_at_call 25; with_reducible refine (PO1.out _).mono ?_; rintro _ wx ⟨rfl, b⟩; have hW := below_on hW b; have x0x := (hW.cell (p := ⟨wr.heap.size, 0, none⟩) lx).trans x0; have x1x := (hW.cell (p := ⟨wr.heap.size, 1, none⟩) lx).trans x1; have x2x := (hW.cell (p := ⟨wr.heap.size, 2, none⟩) lx).trans x2; have x3x := (hW.cell (p := ⟨wr.heap.size, 3, none⟩) lx).trans x3; have y0x := (hW.cell (p := (ad.add (j * 4))) ldX).trans y0; have y1x := (hW.cell (p := ⟨(ad.add (j * 4)).block, (ad.add (j * 4)).off + 1, none⟩) ldX).trans y1; have y2x := (hW.cell (p := ⟨(ad.add (j * 4)).block, (ad.add (j * 4)).off + 2, none⟩) ldX).trans y2; have y3x := (hW.cell (p := ⟨(ad.add (j * 4)).block, (ad.add (j * 4)).off + 3, none⟩) ldX).trans y3)
              | (go_at_call 25; with_reducible refine (PO2.out _).mono ?_; rintro _ wx ⟨rfl, b⟩; have hW := below_on hW b; have x0x := (hW.cell (p := ⟨wr.heap.size, 0, none⟩) lx).trans x0; have x1x := (hW.cell (p := ⟨wr.heap.size, 1, none⟩) lx).trans x1; have x2x := (hW.cell (p := ⟨wr.heap.size, 2, none⟩) lx).trans x2; have x3x := (hW.cell (p := ⟨wr.heap.size, 3, none⟩) lx).trans x3; have y0x := (hW.cell (p := (ad.add (j * 4))) ldX).trans y0; have y1x := (hW.cell (p := ⟨(ad.add (j * 4)).block, (ad.add (j * 4)).off + 1, none⟩) ldX).trans y1; have y2x := (hW.cell (p := ⟨(ad.add (j * 4)).block, (ad.add (j * 4)).off + 2, none⟩) ldX).trans y2; have y3x := (hW.cell (p := ⟨(ad.add (j * 4)).block, (ad.add (j * 4)).off + 3, none⟩) ldX).trans y3)
              | (go_at_call 24; with_reducible refine (PC.out _).mono ?_; rintro _ wx ⟨rfl, b⟩; have hW := below_on hW b; have x0x := (hW.cell (p := ⟨wr.heap.size, 0, none⟩) lx).trans x0; have x1x := (hW.cell (p := ⟨wr.heap.size, 1, none⟩) lx).trans x1; have x2x := (hW.cell (p := ⟨wr.heap.size, 2, none⟩) lx).trans x2; have x3x := (hW.cell (p := ⟨wr.heap.size, 3, none⟩) lx).trans x3; have y0x := (hW.cell (p := (ad.add (j * 4))) ldX).trans y0; have y1x := (hW.cell (p := ⟨(ad.add (j * 4)).block, (ad.add (j * 4)).off + 1, none⟩) ldX).trans y1; have y2x := (hW.cell (p := ⟨(ad.add (j * 4)).block, (ad.add (j * 4)).off + 2, none⟩) ldX).trans y2; have y3x := (hW.cell (p := ⟨(ad.add (j * 4)).block, (ad.add (j * 4)).off + 3, none⟩) ldX).trans y3)))) | fail "x"
            all_goals (try go_wp2_with fail)
            all_goals go_ret
            all_goals exact ⟨by rw [HE.out]; rfl, below_on B1.out hW⟩
          · have g5 : decide (0 ≤ o) = false := decide_eq_false ho
            have HO := Lib.hid (show okS (some (a, r)) (L.drop (k + 1)) = okS none L from by
              have : ltO pa pr a r = true := by cases h : ltO pa pr a r with | true => rfl | false => exact absurd (HG.out.2 h) ho
              rw [← HK.out, hm, this]; rfl)
            clear hm
            go_wp2_with fail
            generalize wr.alloc (.cells #[.int .i64 a, .int .i64 r, .int .i64 s, .int .i64 m] 45) = wX at B1 X HX ⊢
            obtain ⟨⟨x0, x1, x2, x3⟩, x4, x5, x6, x7⟩ := X.out.facts4
            have lx := X.out.lt
            have hW := (Below.refl wX.heap.size wX).drew
            have y0 := (HX.out.cell (p := (ad.add (j * 4))) ld).trans d0
            have y1 := (HX.out.cell (p := ⟨(ad.add (j * 4)).block, (ad.add (j * 4)).off + 1, none⟩) ld).trans d1
            have y2 := (HX.out.cell (p := ⟨(ad.add (j * 4)).block, (ad.add (j * 4)).off + 2, none⟩) ld).trans d2
            have y3 := (HX.out.cell (p := ⟨(ad.add (j * 4)).block, (ad.add (j * 4)).off + 3, none⟩) ld).trans d3
            have ldX : (ad.add (j * 4)).block < wX.heap.size := Nat.lt_of_lt_of_le ld HX.out.size
            first | (go_loud (go_region_held_law (fun w' => w'.cell? ⟨wr.heap.size, 0, none⟩ = some (.int .i64 a) ∧ w'.cell? ⟨wr.heap.size, 1, none⟩ = some (.int .i64 r) ∧ w'.cell? ⟨wr.heap.size, 2, none⟩ = some (.int .i64 s) ∧ w'.cell? ⟨wr.heap.size, 3, none⟩ = some (.int .i64 m) ∧ w'.cell? (ad.add (j * 4)) = some (.int .i64 pa) ∧ w'.cell? ⟨(ad.add (j * 4)).block, (ad.add (j * 4)).off + 1, none⟩ = some (.int .i64 pr) ∧ w'.cell? ⟨(ad.add (j * 4)).block, (ad.add (j * 4)).off + 2, none⟩ = some (.int .i64 ps) ∧ w'.cell? ⟨(ad.add (j * 4)).block, (ad.add (j * 4)).off + 3, none⟩ = some (.int .i64 pm)) (first | exact ⟨by assumption, by assumption, by assumption, by assumption, by assumption, by assumption, by assumption, by assumption⟩ | go_keep)
            (first
              | (go_at_call 23; with_reducible refine (PM.out _).mono ?_; rintro _ wx ⟨rfl, b⟩; have hW := below_on hW b; have x0x := (hW.cell (p := ⟨wr.heap.size, 0, none⟩) lx).trans x0; have x1x := (hW.cell (p := ⟨wr.heap.size, 1, none⟩) lx).trans x1; have x2x := (hW.cell (p := ⟨wr.heap.size, 2, none⟩) lx).trans x2; have x3x := (hW.cell (p := ⟨wr.heap.size, 3, none⟩) lx).trans x3; have y0x := (hW.cell (p := (ad.add (j * 4))) ldX).trans y0; have y1x := (hW.cell (p := ⟨(ad.add (j * 4)).block, (ad.add (j * 4)).off + 1, none⟩) ldX).trans y1; have y2x := (hW.cell (p := ⟨(ad.add (j * 4)).block, (ad.add (j * 4)).off + 2, none⟩) ldX).trans y2; have y3x := (hW.cell (p := ⟨(ad.add (j * 4)).block, (ad.add (j * 4)).off + 3, none⟩) ldX).trans y3)
              | (go_at_call 25; with_reducible refine (PO1.out _).mono ?_; rintro _ wx ⟨rfl, b⟩; have hW := below_on hW b; have x0x := (hW.cell (p := ⟨wr.heap.size, 0, none⟩) lx).trans x0; have x1x := (hW.cell (p := ⟨wr.heap.size, 1, none⟩) lx).trans x1; have x2x := (hW.cell (p := ⟨wr.heap.size, 2, none⟩) lx).trans x2; have x3x := (hW.cell (p := ⟨wr.heap.size, 3, none⟩) lx).trans x3; have y0x := (hW.cell (p := (ad.add (j * 4))) ldX).trans y0; have y1x := (hW.cell (p := ⟨(ad.add (j * 4)).block, (ad.add (j * 4)).off + 1, none⟩) ldX).trans y1; have y2x := (hW.cell (p := ⟨(ad.add (j * 4)).block, (ad.add (j * 4)).off + 2, none⟩) ldX).trans y2; have y3x := (hW.cell (p := ⟨(ad.add (j * 4)).block, (ad.add (j * 4)).off + 3, none⟩) ldX).trans y3)
              | (go_at_call 25; with_reducible refine (PO2.out _).mono ?_; rintro _ wx ⟨rfl, b⟩; have hW := below_on hW b; have x0x := (hW.cell (p := ⟨wr.heap.size, 0, none⟩) lx).trans x0; have x1x := (hW.cell (p := ⟨wr.heap.size, 1, none⟩) lx).trans x1; have x2x := (hW.cell (p := ⟨wr.heap.size, 2, none⟩) lx).trans x2; have x3x := (hW.cell (p := ⟨wr.heap.size, 3, none⟩) lx).trans x3; have y0x := (hW.cell (p := (ad.add (j * 4))) ldX).trans y0; have y1x := (hW.cell (p := ⟨(ad.add (j * 4)).block, (ad.add (j * 4)).off + 1, none⟩) ldX).trans y1; have y2x := (hW.cell (p := ⟨(ad.add (j * 4)).block, (ad.add (j * 4)).off + 2, none⟩) ldX).trans y2; have y3x := (hW.cell (p := ⟨(ad.add (j * 4)).block, (ad.add (j * 4)).off + 3, none⟩) ldX).trans y3)
              | (go_at_call 24; with_reducible refine (PC.out _).mono ?_; rintro _ wx ⟨rfl, b⟩; have hW := below_on hW b; have x0x := (hW.cell (p := ⟨wr.heap.size, 0, none⟩) lx).trans x0; have x1x := (hW.cell (p := ⟨wr.heap.size, 1, none⟩) lx).trans x1; have x2x := (hW.cell (p := ⟨wr.heap.size, 2, none⟩) lx).trans x2; have x3x := (hW.cell (p := ⟨wr.heap.size, 3, none⟩) lx).trans x3; have y0x := (hW.cell (p := (ad.add (j * 4))) ldX).trans y0; have y1x := (hW.cell (p := ⟨(ad.add (j * 4)).block, (ad.add (j * 4)).off + 1, none⟩) ldX).trans y1; have y2x := (hW.cell (p := ⟨(ad.add (j * 4)).block, (ad.add (j * 4)).off + 2, none⟩) ldX).trans y2; have y3x := (hW.cell (p := ⟨(ad.add (j * 4)).block, (ad.add (j * 4)).off + 3, none⟩) ldX).trans y3)))) | fail "x"
            all_goals (try go_wp2_with fail)
            all_goals go_roundw
            all_goals first | exact ⟨k + 1, by omega, by go_num, by rw [HN.out]; exact HO.out, below_on B1.out hW⟩ | (simp [intOf]; omega)
    · obtain rfl : k = L.length := by omega
      have HG := Lib.hid (chkS_good (L := L) (by rw [← HK.out, List.drop_length]; cases prevS L L.length <;> rfl))
      by_cases h64 : 1024 < L.length
      · rw [if_pos h64] at HG
        go_wp2_with fail
        go_ret
        exact ⟨by rw [HG.out]; rfl, HB.out⟩
      · rw [if_neg h64] at HG
        go_wp2_with fail
        go_ret
        exact ⟨by rw [HG.out]; rfl, HB.out⟩
end Go.Proofs.Ytnjmhijfaijopaa

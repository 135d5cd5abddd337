/- Contracts of budget: Left. -/
import Derived.Test.YtnjmhijfaijopaaBudgetH
namespace Go.Proofs.Ytnjmhijfaijopaa
open Go.ChangeShapes Go.WideShapes Go.ChangeAt Go.RowKit Gs
set_option linter.unusedVariables false
section
variable (N : ByteArray) (al : Bool) (PA : Option Addr) (pn pc : Nat) (km lm mo wi : Int)
set_option maxHeartbeats 4000000 in
theorem Left17_any (A : Option Addr) (c : Nat) (L : List Sp) (hl : L.length ≤ 70368744177664) (rule acc now : Int) (w : World) (hs : QS w w.heap.size A L) :
    Calls Try.prog 15 #[.slice A L.length c, .agg (rcs N al PA pn pc km lm mo wi), .int .i64 rule, .int .i64 acc, .int .i64 now] w fun e w' => e = .returned (.int .i64 (leftS L mo wi rule acc now)) ∧ Below w.heap.size w w' := by
  have HS := Lib.hid hs
  clear hs
  have P1 := Lib.hid (mayAsk_any N al PA pn pc km lm mo wi A c L hl rule acc now)
  have P2 := Lib.hid (limits_any N al PA pn pc km lm mo wi)
  have P3 := Lib.hid (find_any acc rule A c L hl)
  have h1 := (Below.refl w.heap.size w).alloc (Nat.le_refl _) (.cells (rcs N al PA pn pc km lm mo wi) 28)
  have B2 := Lib.hid (h1.alloc h1.size (.cells #[.int .i64 acc, .int .i64 rule] 49))
  have X := Lib.hid ((Blk.new w 28 (rcs N al PA pn pc km lm mo wi)).alloc (.cells #[.int .i64 acc, .int .i64 rule] 49))
  have Y := Lib.hid (Blk.new_at (g := w.heap.size + 1) (w.alloc (.cells (rcs N al PA pn pc km lm mo wi) 28)) 49 #[.int .i64 acc, .int .i64 rule] (by simp))
  clear h1
  by_cases hE : askE L mo wi rule acc now = 0
  · obtain ⟨hok, hrm, hrl, hna, hnn⟩ := askE_ok hE
    have HOK := Lib.hid hok
    have HM := Lib.hid (okS_may hok)
    have HR := Lib.hid (rmB_iff.1 hrm)
    have HNN := Lib.hid (nmB_iff.1 hnn)
    rw [show leftS L mo wi rule acc now = (if mo = 0 then 1099511627776 else max 0 (mo - hadS acc rule wi now L)) from if_pos hE]
    rw [hE] at P1
    clear hok hrm hrl hna hnn hE
    go_enter Try.func15, Try.ntmps15
    go_wp2_with fail
    generalize (w.alloc (.cells (rcs N al PA pn pc km lm mo wi) 28)).alloc (.cells #[.int .i64 acc, .int .i64 rule] 49) = w2 at B2 X Y ⊢
    obtain ⟨⟨x0, x1, x2, x3⟩, x4, x5, x6⟩ := X.out.facts7
    obtain ⟨⟨y0, y1⟩, y2, y3⟩ := Y.out.facts2
    go_wp2_with fail
    with_reducible refine (P1.out _ (HS.out.on B2.out)).mono ?_; rintro e w3 ⟨rfl, b⟩
    have B3 := Lib.hid (below_on B2.out b)
    have X3 := Lib.hid (X.out.below b X.out.lt)
    have Y3 := Lib.hid (Y.out.below b Y.out.lt)
    clear b x0 x1 x2 x3 x4 x5 x6 y0 y1 y2 y3
    obtain ⟨⟨x0, x1, x2, x3⟩, x4, x5, x6⟩ := X3.out.facts7
    obtain ⟨⟨y0, y1⟩, y2, y3⟩ := Y3.out.facts2
    go_wp2_with fail
    with_reducible refine (P2.out _).mono ?_; rintro e w4 ⟨rfl, b⟩
    have B4 := Lib.hid (below_on B3.out b)
    have X4 := Lib.hid (X3.out.below b X3.out.lt)
    have Y4 := Lib.hid (Y3.out.below b Y3.out.lt)
    clear b x0 x1 x2 x3 x4 x5 x6 y0 y1 y2 y3
    by_cases hm0 : mo = 0
    · have g0 : decide (0 < mo) = false := decide_eq_false (by omega)
      go_wp2_with fail
      go_ret
      exact ⟨by simp_all, B4.out⟩
    · have g0 : decide (0 < mo) = true := decide_eq_true (by have := HR.out.1.1; omega)
      have HM0 := Lib.hid hm0
      clear hm0
      obtain ⟨⟨x0, x1, x2, x3⟩, x4, x5, x6⟩ := X4.out.facts7
      obtain ⟨⟨y0, y1⟩, y2, y3⟩ := Y4.out.facts2
      go_wp2_with fail
      refine (P3.out _ (HS.out.on B4.out)).mono ?_; rintro e w5 ⟨⟨k, fd, rfl, hk, hbef, hat, hend⟩, b⟩
      have B5 := Lib.hid (below_on B4.out b)
      have X5 := Lib.hid (X4.out.below b X4.out.lt)
      have HB := Lib.hid hbef
      clear b x0 x1 x2 x3 x4 x5 x6 y0 y1 y2 y3 hbef
      obtain ⟨⟨x0, x1, x2, x3⟩, x4, x5, x6⟩ := X5.out.facts7
      have hW := (Below.refl w5.heap.size w5).drew
      cases fd with
      | false =>
        have HH := Lib.hid (show hadS acc rule wi now L = 0 from by
          unfold hadS
          by_cases hkl : k < L.length
          · obtain ⟨hge, hfd⟩ := hat hkl
            rw [found_at HOK.out k hkl HB.out hge, if_neg (by unfold isO; rw [← hfd]; decide)]
          · rw [found_none (fun j g => HB.out j g (by omega))])
        have HMX := Lib.hid (show max 0 (mo - hadS acc rule wi now L) = mo by rw [HH.out]; have := HR.out.1.1; omega)
        clear hat hend
        go_wp2_with fail
        first | (go_loud (go_region_with (fail))) | fail "x"
        all_goals (try go_wp2_with fail)
        all_goals go_ret
        all_goals exact ⟨by first | (rw [if_neg HM0.out, HMX.out]; rfl) | (rw [HMX.out]; rfl), below_on B5.out hW⟩
      | true =>
        have hkl : k < L.length := by
          rcases Nat.lt_or_ge k L.length with h | h
          · exact h
          · exact absurd (hend (by omega)) (by decide)
        obtain ⟨hge, hfd⟩ := hat hkl
        have HMY := Lib.hid (mayS_iff.1 (HM.out L[k] (List.getElem_mem hkl)))
        have HHAD := Lib.hid (show hadS acc rule wi now L = if now - L[k].2.2.1 < wi then L[k].2.2.2 else 0 from by
          unfold hadS
          rw [found_at HOK.out k hkl HB.out hge, if_pos (by unfold isO; rw [← hfd])])
        obtain ⟨ad, rfl, hBk, c0, c1, c2, c3⟩ := (HS.out.on B5.out) k hkl
        have HBK := Lib.hid (show (ad.add (k * 4)).block < w5.heap.size by rw [block_of_add]; exact hBk)
        have hk0 : (0 : Int) ≤ (k : Int) := by omega
        have hk1 : (k : Int) < (L.length : Int) := by omega
        clear hge hfd hat hend hk hBk
        generalize L[k].1 = a, L[k].2.1 = r0, L[k].2.2.1 = s, L[k].2.2.2 = m at c0 c1 c2 c3 HHAD HMY
        have hw0 : IntKind.i64.wrap (now - s) = now - s := IntWalk.i64_in _ (by have := HMY.out; have := HNN.out; omega)
        have PI := Lib.hid (isOn_any N al PA pn pc km lm mo wi a r0 s m now hw0)
        clear hw0 hW
        by_cases hu : now - s < wi
        · have gu : decide (now - s < wi) = true := decide_eq_true hu
          rw [gu] at PI
          have HMX := Lib.hid (show max 0 (mo - hadS acc rule wi now L) = max 0 (mo - m) by rw [HHAD.out, if_pos hu])
          clear hu gu
          go_wp2_with fail
          have hW := (Below.refl w5.heap.size w5).drew
          have lt0 := HBK.out
          have lt1 := HBK.out
          have lt2 := HBK.out
          have lt3 := HBK.out
          have lt4 := X5.out.lt
          have lt5 := X5.out.lt
          have lt6 := X5.out.lt
          have lt7 := X5.out.lt
          have lt8 := X5.out.lt
          have lt9 := X5.out.lt
          have lt10 := X5.out.lt
          first | (go_loud (go_region_held_law (fun w' => w'.cell? (ad.add (k * 4)) = some (.int .i64 a) ∧ w'.cell? ⟨(ad.add (k * 4)).block, (ad.add (k * 4)).off + 1, none⟩ = some (.int .i64 r0) ∧ w'.cell? ⟨(ad.add (k * 4)).block, (ad.add (k * 4)).off + 2, none⟩ = some (.int .i64 s) ∧ w'.cell? ⟨(ad.add (k * 4)).block, (ad.add (k * 4)).off + 3, none⟩ = some (.int .i64 m) ∧ w'.cell? ⟨w.heap.size, 0, none⟩ = some (.string N) ∧ w'.cell? ⟨w.heap.size, 1, none⟩ = some (.bool al) ∧ w'.cell? ⟨w.heap.size, 2, none⟩ = some (.slice PA pn pc) ∧ w'.cell? ⟨w.heap.size, 3, none⟩ = some (.int .u64 km) ∧ w'.cell? ⟨w.heap.size, 4, none⟩ = some (.int .i64 lm) ∧ w'.cell? ⟨w.heap.size, 5, none⟩ = some (.int .i64 mo) ∧ w'.cell? ⟨w.heap.size, 6, none⟩ = some (.int .i64 wi)) (first | exact ⟨by assumption, by assumption, by assumption, by assumption, by assumption, by assumption, by assumption, by assumption, by assumption, by assumption, by assumption⟩ | go_keep)
            (first
              | (go_at_call 31; with_reducible refine (PI.out _).mono ?_; rintro _ wx ⟨rfl, b⟩; have hW := below_on hW b; have c0x := (hW.cell (p := (ad.add (k * 4))) lt0).trans c0; have c1x := (hW.cell (p := ⟨(ad.add (k * 4)).block, (ad.add (k * 4)).off + 1, none⟩) lt1).trans c1; have c2x := (hW.cell (p := ⟨(ad.add (k * 4)).block, (ad.add (k * 4)).off + 2, none⟩) lt2).trans c2; have c3x := (hW.cell (p := ⟨(ad.add (k * 4)).block, (ad.add (k * 4)).off + 3, none⟩) lt3).trans c3; have x0x := (hW.cell (p := ⟨w.heap.size, 0, none⟩) lt4).trans x0; have x1x := (hW.cell (p := ⟨w.heap.size, 1, none⟩) lt5).trans x1; have x2x := (hW.cell (p := ⟨w.heap.size, 2, none⟩) lt6).trans x2; have x3x := (hW.cell (p := ⟨w.heap.size, 3, none⟩) lt7).trans x3; have x4x := (hW.cell (p := ⟨w.heap.size, 4, none⟩) lt8).trans x4; have x5x := (hW.cell (p := ⟨w.heap.size, 5, none⟩) lt9).trans x5; have x6x := (hW.cell (p := ⟨w.heap.size, 6, none⟩) lt10).trans x6)))) | fail "held"
          have B6 := Lib.hid (below_on B5.out hW)
          have hwr : IntKind.i64.wrap (mo - m) = mo - m := IntWalk.i64_in _ (by have := HMY.out; have := HR.out; omega)
          go_wp2_with fail
          have hW2 := (Below.refl wx.heap.size wx).drew
          by_cases hs0 : 0 ≤ mo - m
          · first | (go_loud (go_region_with (fail))) | fail "r8"
            all_goals (try (exfalso; omega))
            all_goals (try go_wp2_with fail)
            all_goals go_ret
            all_goals exact ⟨by (try rw [if_neg HM0.out]); rw [HMX.out]; first | (rw [Int.max_eq_right (by omega)]; rfl) | (rw [Int.max_eq_left (by omega)]; rfl), below_on B6.out hW2⟩
          · first | (go_loud (go_region_with (fail))) | fail "r8"
            all_goals (try (exfalso; omega))
            all_goals (try go_wp2_with fail)
            all_goals go_ret
            all_goals exact ⟨by (try rw [if_neg HM0.out]); rw [HMX.out]; first | (rw [Int.max_eq_right (by omega)]; rfl) | (rw [Int.max_eq_left (by omega)]; rfl), below_on B6.out hW2⟩
        · have gu : decide (now - s < wi) = false := decide_eq_false hu
          rw [gu] at PI
          have HMX := Lib.hid (show max 0 (mo - hadS acc rule wi now L) = mo by rw [HHAD.out, if_neg hu]; have := HR.out.1.1; omega)
          clear hu gu
          go_wp2_with fail
          have hW := (Below.refl w5.heap.size w5).drew
          have lt0 := HBK.out
          have lt1 := HBK.out
          have lt2 := HBK.out
          have lt3 := HBK.out
          have lt4 := X5.out.lt
          have lt5 := X5.out.lt
          have lt6 := X5.out.lt
          have lt7 := X5.out.lt
          have lt8 := X5.out.lt
          have lt9 := X5.out.lt
          have lt10 := X5.out.lt
          first | (go_loud (go_region_held_law (fun w' => w'.cell? (ad.add (k * 4)) = some (.int .i64 a) ∧ w'.cell? ⟨(ad.add (k * 4)).block, (ad.add (k * 4)).off + 1, none⟩ = some (.int .i64 r0) ∧ w'.cell? ⟨(ad.add (k * 4)).block, (ad.add (k * 4)).off + 2, none⟩ = some (.int .i64 s) ∧ w'.cell? ⟨(ad.add (k * 4)).block, (ad.add (k * 4)).off + 3, none⟩ = some (.int .i64 m) ∧ w'.cell? ⟨w.heap.size, 0, none⟩ = some (.string N) ∧ w'.cell? ⟨w.heap.size, 1, none⟩ = some (.bool al) ∧ w'.cell? ⟨w.heap.size, 2, none⟩ = some (.slice PA pn pc) ∧ w'.cell? ⟨w.heap.size, 3, none⟩ = some (.int .u64 km) ∧ w'.cell? ⟨w.heap.size, 4, none⟩ = some (.int .i64 lm) ∧ w'.cell? ⟨w.heap.size, 5, none⟩ = some (.int .i64 mo) ∧ w'.cell? ⟨w.heap.size, 6, none⟩ = some (.int .i64 wi)) (first | exact ⟨by assumption, by assumption, by assumption, by assumption, by assumption, by assumption, by assumption, by assumption, by assumption, by assumption, by assumption⟩ | go_keep)
            (first
              | (go_at_call 31; with_reducible refine (PI.out _).mono ?_; rintro _ wx ⟨rfl, b⟩; have hW := below_on hW b; have c0x := (hW.cell (p := (ad.add (k * 4))) lt0).trans c0; have c1x := (hW.cell (p := ⟨(ad.add (k * 4)).block, (ad.add (k * 4)).off + 1, none⟩) lt1).trans c1; have c2x := (hW.cell (p := ⟨(ad.add (k * 4)).block, (ad.add (k * 4)).off + 2, none⟩) lt2).trans c2; have c3x := (hW.cell (p := ⟨(ad.add (k * 4)).block, (ad.add (k * 4)).off + 3, none⟩) lt3).trans c3; have x0x := (hW.cell (p := ⟨w.heap.size, 0, none⟩) lt4).trans x0; have x1x := (hW.cell (p := ⟨w.heap.size, 1, none⟩) lt5).trans x1; have x2x := (hW.cell (p := ⟨w.heap.size, 2, none⟩) lt6).trans x2; have x3x := (hW.cell (p := ⟨w.heap.size, 3, none⟩) lt7).trans x3; have x4x := (hW.cell (p := ⟨w.heap.size, 4, none⟩) lt8).trans x4; have x5x := (hW.cell (p := ⟨w.heap.size, 5, none⟩) lt9).trans x5; have x6x := (hW.cell (p := ⟨w.heap.size, 6, none⟩) lt10).trans x6)))) | fail "held"
          all_goals (try go_wp2_with fail)
          all_goals go_ret
          all_goals exact ⟨by first | (rw [if_neg HM0.out, HMX.out]; rfl) | (rw [HMX.out]; rfl), below_on B5.out hW⟩
  · have hee : (askE L mo wi rule acc now != 0) = true := by simpa using hE
    have HE := Lib.hid (show leftS L mo wi rule acc now = 0 from if_neg hE)
    rw [HE.out]
    go_enter Try.func15, Try.ntmps15
    go_wp2_with fail
    generalize (w.alloc (.cells (rcs N al PA pn pc km lm mo wi) 28)).alloc (.cells #[.int .i64 acc, .int .i64 rule] 49) = w2 at B2 X Y ⊢
    obtain ⟨⟨x0, x1, x2, x3⟩, x4, x5, x6⟩ := X.out.facts7
    obtain ⟨⟨y0, y1⟩, y2, y3⟩ := Y.out.facts2
    go_wp2_with fail
    with_reducible refine (P1.out _ (HS.out.on B2.out)).mono ?_; rintro e w3 ⟨rfl, b⟩
    have B3 := Lib.hid (below_on B2.out b)
    clear b
    go_wp2_with fail
    go_ret
    exact ⟨rfl, B3.out⟩
end
end Go.Proofs.Ytnjmhijfaijopaa

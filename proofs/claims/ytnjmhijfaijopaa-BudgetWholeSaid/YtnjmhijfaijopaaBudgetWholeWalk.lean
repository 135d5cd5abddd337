/- The walk of BudgetWhole. (Printed by tools/gen_budget_laws.py.) -/
import Derived.Test.YtnjmhijfaijopaaBudgetX
import Derived.Test.YtnjmhijfaijopaaBudgetLaw
import Derived.Test.YtnjmhijfaijopaaBudgetWholeLaw
namespace Go.Proofs.Ytnjmhijfaijopaa
open Go.ChangeShapes Go.WideShapes Go.ChangeAt Go.RowKit Gs
set_option linter.unusedVariables false
set_option linter.unusedSimpArgs false

set_option maxRecDepth 100000 in
set_option maxHeartbeats 16000000 in
theorem whole_walk17 (A : Option Addr) (n c : Nat) (L : List Sp) (hn : L.length = n) (AR : Option Addr) (nr cr : Nat) (RU : List Ru) (hnr : RU.length = nr) (AB : Option Addr) (nb cb : Nat) (BY : List Int) (hnb : BY.length = nb) (acc now : Int) (w : World) (hs : QS w w.heap.size A L) (hr : RS w w.heap.size AR RU) (hby : SI w w.heap.size .i64 AB BY) (hc : n ≤ c) (hm : c ≤ maxLen) (hcr : nr ≤ cr) (hmr : cr ≤ maxLen) (hcb : nb ≤ cb) (hmb : cb ≤ maxLen) :
    Calls Try.prog 9 #[.slice A n c, .slice AR nr cr, .slice AB nb cb, .int .i64 acc, .int .i64 now] w fun e w' => e = .returned (.bool true) ∧ Below w.heap.size w w' := by
  have Q0 := Lib.hid (hs)
  have HRS := Lib.hid (hr)
  have HBS := Lib.hid (hby)
  have HCM := Lib.hid (And.intro hc (And.intro hm (And.intro hcr (And.intro hmr (And.intro hcb hmb)))))
  clear hs hr hby hc hm hcr hmr hcb hmb
  have B0 := Lib.hid (Below.refl w.heap.size w)
  by_cases hfew : n ≤ 1100
  rotate_left 1
  · have PF := Lib.hid (few_k A n c false (decide_eq_false hfew))
    go_enter Try.func9, Try.ntmps9
    go_wp2_with fail
    (with_reducible refine (live17 _).mono ?_)
    rintro e w1 ⟨rfl, b⟩
    have B1 := Lib.hid (below_on B0.out b)
    replace Q0 := Lib.hid (Q0.out.on b)
    clear b
    go_wp2_with fail
    (with_reducible refine (PF.out _).mono ?_)
    rintro e _ ⟨rfl, rfl⟩
    go_wp2_with fail
    go_ret
    exact ⟨rfl, B1.out⟩
  have PF := Lib.hid (few_k A n c true (decide_eq_true hfew))
  by_cases hr40 : nr ≤ 40
  rotate_left 1
  · have PR := Lib.hid (fewRules_k AR nr cr false (decide_eq_false hr40))
    go_enter Try.func9, Try.ntmps9
    go_wp2_with fail
    (with_reducible refine (live17 _).mono ?_)
    rintro e w1 ⟨rfl, b⟩
    have B1 := Lib.hid (below_on B0.out b)
    replace Q0 := Lib.hid (Q0.out.on b)
    clear b
    go_wp2_with fail
    (with_reducible refine (PF.out _).mono ?_)
    rintro e _ ⟨rfl, rfl⟩
    go_wp2_with fail
    (with_reducible refine (PR.out _).mono ?_)
    rintro e _ ⟨rfl, rfl⟩
    go_wp2_with fail
    go_ret
    exact ⟨rfl, B1.out⟩
  have PR := Lib.hid (fewRules_k AR nr cr true (decide_eq_true hr40))
  by_cases hb20 : 20 < nb
  · have g20 : decide (20 < nb) = true := decide_eq_true hb20
    go_enter Try.func9, Try.ntmps9
    go_wp2_with fail
    (with_reducible refine (live17 _).mono ?_)
    rintro e w1 ⟨rfl, b⟩
    have B1 := Lib.hid (below_on B0.out b)
    replace Q0 := Lib.hid (Q0.out.on b)
    clear b
    go_wp2_with fail
    (with_reducible refine (PF.out _).mono ?_)
    rintro e _ ⟨rfl, rfl⟩
    go_wp2_with fail
    (with_reducible refine (PR.out _).mono ?_)
    rintro e _ ⟨rfl, rfl⟩
    go_wp2_with fail
    go_ret
    exact ⟨rfl, B1.out⟩
  have g20 : decide (20 < nb) = false := decide_eq_false hb20
  have PA := Lib.hid (All17_any A n c L hn (by omega) AR nr cr RU hnr (by omega) AB nb cb BY hnb (by omega) acc now)
  have hl : n ≤ 1048576 := by omega
  have PL := Lib.hid (fun (N : ByteArray) al PA pn pc km lm mo wi rule r h w hs => Left_k A n c L hn hl N al PA pn pc km lm mo wi rule acc now r h w hs)
  have HNR := Lib.hid hnr
  have HNB := Lib.hid hnb
  have HML := Lib.hid (mw_len RU)
  have hlrr := hr40
  have hlbb := hb20
  clear hn hnr hnb
  go_enter Try.func9, Try.ntmps9
  go_wp2_with fail
  (with_reducible refine (live17 _).mono ?_)
  rintro e w1 ⟨rfl, b⟩
  have B1 := Lib.hid (below_on B0.out b)
  replace Q0 := Lib.hid (Q0.out.on b)
  clear b
  go_wp2_with fail
  (with_reducible refine (PF.out _).mono ?_)
  rintro e _ ⟨rfl, rfl⟩
  go_wp2_with fail
  (with_reducible refine (PR.out _).mono ?_)
  rintro e _ ⟨rfl, rfl⟩
  go_wp2_with fail
  (with_reducible refine (PA.out _ Q0.out (HRS.out.on B1.out) (HBS.out.on17 B1.out)).mono ?_)
  rintro e w2 ⟨A1, c1, X, er, m, hX, hm, rfl, hcc, hq, b⟩
  have B2 := Lib.hid (below_on B1.out b)
  replace Q0 := Lib.hid (Q0.out.on b)
  have Q1 := Lib.hid (hq)
  have HX := Lib.hid (hX)
  have HM := Lib.hid (hm)
  clear b hq hX hm hcc
  by_cases h170 : er = 170
  · subst h170
    obtain ⟨hX0, hany⟩ := whole_none HX.out
    subst hX0
    obtain rfl : m = 0 := HM.out.symm
    have HANY := Lib.hid hany
    clear hany
    go_wp2_with fail
    go_loopw [13, 14] (fun s13 i wr => ∃ (k : Nat), k ≤ nb ∧ s13 = .bool ((BY.take k).any (hitB L (mw RU) acc now)) ∧ i = .int .i64 k ∧ Hid (QS wr wr.heap.size A L) ∧ Hid (Below w.heap.size w wr)) (fun _ i _ => nb - (intOf i).toNat)
    case atStart => exact ⟨0, Nat.zero_le _, rfl, rfl, Q0, B2⟩
    case round =>
      obtain ⟨k, hk, rfl, rfl, QR, BR⟩ := hrel
      skip
      by_cases hlt : k < nb
      · have hkx : k < BY.length := by have := HNB.out; omega
        have HSN := Lib.hid (any_snocI (q := hitB L (mw RU) acc now) k hkx)
        obtain ⟨adb, eb, hadb, ct⟩ := (HBS.out.on17 BR.out) k hkx
        subst eb
        rw [List.getElem?_eq_getElem hkx, Option.getD_some] at ct
        have hk0 : (0 : Int) ≤ (k : Int) := by omega
        generalize (BY.take k).any (hitB L (mw RU) acc now) = pb at HSN ⊢
        generalize BY[k] = x at ct HSN
        cases pb with
        | true =>
          go_wp2_with fail
          go_quiet (fail)
          go_wp2_with fail
          go_roundw
          case rel => exact ⟨k + 1, by omega, by rw [HSN.out, Bool.true_or], by go_num, Lib.hid (QR.out.on (below_drewN (Below.refl _ wr) _)), Lib.hid (below_drewN BR.out _)⟩
          case measure => simp [intOf]; omega
        | false =>
          by_cases hx0 : x < 0
          · have g0 : decide (0 ≤ x) = false := decide_eq_false (by omega)
            have HH := Lib.hid (hitB_low (L := L) (rs := mw RU) (acc := acc) (now := now) hx0)
            go_wp2_with fail
            go_quiet (fail)
            go_wp2_with fail
            go_roundw
            case rel => exact ⟨k + 1, by omega, by rw [HSN.out, HH.out, Bool.or_false], by go_num, Lib.hid (QR.out.on (below_drewN (Below.refl _ wr) _)), Lib.hid (below_drewN BR.out _)⟩
            case measure => simp [intOf]; omega
          have g0 : decide (0 ≤ x) = true := decide_eq_true (by omega)
          by_cases hx1 : (nr : Int) ≤ x
          · have g1 : decide (x < (nr : Int)) = false := decide_eq_false (by omega)
            have HH := Lib.hid (hitB_high (L := L) (rs := mw RU) (acc := acc) (now := now) (x := x) (by rw [HML.out, HNR.out]; exact hx1))
            go_wp2_with fail
            go_quiet (fail)
            go_wp2_with fail
            go_roundw
            case rel => exact ⟨k + 1, by omega, by rw [HSN.out, HH.out, Bool.or_false], by go_num, Lib.hid (QR.out.on (below_drewN (Below.refl _ wr) _)), Lib.hid (below_drewN BR.out _)⟩
            case measure => simp [intOf]; omega
          obtain ⟨kx, hkx2⟩ : ∃ kx : Nat, x = kx := ⟨x.toNat, by omega⟩
          subst hkx2
          have g1 : decide ((kx : Int) < (nr : Int)) = true := decide_eq_true (by omega)
          have g1b : decide (kx < nr) = true := decide_eq_true (by omega)
          have hkR : kx < RU.length := by have := HNR.out; omega
          have HH := Lib.hid (hitB_in (L := L) (rs := mw RU) (acc := acc) (now := now) kx (by rw [HML.out]; exact hkR))
          obtain ⟨adr, eR, hbR, r0, r1, r2, r3, r4, r5, r6⟩ := (HRS.out.on BR.out) kx hkR
          subst eR
          have HMW := Lib.hid (show (mw RU)[kx]'(by rw [HML.out]; exact hkR) = (RU[kx].mo, RU[kx].wi) by simp [mw])
          rw [HMW.out] at HH
          generalize RU[kx].N = RN, RU[kx].al = ral, RU[kx].PA = RPA, RU[kx].pn = rpn, RU[kx].pc = rpc, RU[kx].km = rkm, RU[kx].lm = rlm, RU[kx].mo = rmo, RU[kx].wi = rwi at r0 r1 r2 r3 r4 r5 r6 HH
          obtain ⟨lf, hlf⟩ : ∃ lf, leftS L rmo rwi kx acc now = lf := ⟨_, rfl⟩
          have P1 := Lib.hid (fun w hs => PL.out RN ral RPA rpn rpc rkm rlm rmo rwi kx lf hlf w hs)
          replace HH := Lib.hid (show hitB L (mw RU) acc now kx = (lf == 0) by rw [HH.out]; show (leftS L rmo rwi kx acc now == 0) = _; rw [hlf])
          clear hlf HMW
          have HLR := Lib.hid (show (adr.add (kx * 7)).block < wr.heap.size by rw [block_of_add]; exact hbR)
          have HLB := Lib.hid (show (adb.add k).block < wr.heap.size by rw [block_of_add]; exact hadb)
          go_wp2_with fail
          have hW := (Below.refl wr.heap.size wr).drew
          have lt0 := HLR.out
          have lt1 := HLR.out
          have lt2 := HLR.out
          have lt3 := HLR.out
          have lt4 := HLR.out
          have lt5 := HLR.out
          have lt6 := HLR.out
          have lt7 := HLB.out
          first | (go_loud (go_region_held_law (fun w' => w'.cell? (adr.add (kx * 7)) = some (.string RN) ∧ w'.cell? ⟨(adr.add (kx * 7)).block, (adr.add (kx * 7)).off + 1, none⟩ = some (.bool ral) ∧ w'.cell? ⟨(adr.add (kx * 7)).block, (adr.add (kx * 7)).off + 2, none⟩ = some (.slice RPA rpn rpc) ∧ w'.cell? ⟨(adr.add (kx * 7)).block, (adr.add (kx * 7)).off + 3, none⟩ = some (.int .u64 rkm) ∧ w'.cell? ⟨(adr.add (kx * 7)).block, (adr.add (kx * 7)).off + 4, none⟩ = some (.int .i64 rlm) ∧ w'.cell? ⟨(adr.add (kx * 7)).block, (adr.add (kx * 7)).off + 5, none⟩ = some (.int .i64 rmo) ∧ w'.cell? ⟨(adr.add (kx * 7)).block, (adr.add (kx * 7)).off + 6, none⟩ = some (.int .i64 rwi) ∧ w'.cell? (adb.add k) = some (.int .i64 (kx : Nat))) (first | exact ⟨by assumption, by assumption, by assumption, by assumption, by assumption, by assumption, by assumption, by assumption⟩ | go_keep)
            (first
              | (go_at_call 15; with_reducible refine (P1.out _ (QR.out.on hW)).mono ?_; rintro _ wx ⟨rfl, b⟩; have hW := below_on hW b; have r0x := (hW.cell (p := (adr.add (kx * 7))) lt0).trans r0; have r1x := (hW.cell (p := ⟨(adr.add (kx * 7)).block, (adr.add (kx * 7)).off + 1, none⟩) lt1).trans r1; have r2x := (hW.cell (p := ⟨(adr.add (kx * 7)).block, (adr.add (kx * 7)).off + 2, none⟩) lt2).trans r2; have r3x := (hW.cell (p := ⟨(adr.add (kx * 7)).block, (adr.add (kx * 7)).off + 3, none⟩) lt3).trans r3; have r4x := (hW.cell (p := ⟨(adr.add (kx * 7)).block, (adr.add (kx * 7)).off + 4, none⟩) lt4).trans r4; have r5x := (hW.cell (p := ⟨(adr.add (kx * 7)).block, (adr.add (kx * 7)).off + 5, none⟩) lt5).trans r5; have r6x := (hW.cell (p := ⟨(adr.add (kx * 7)).block, (adr.add (kx * 7)).off + 6, none⟩) lt6).trans r6; have ctx := (hW.cell (p := (adb.add k)) lt7).trans ct)))) | fail "held"
          go_wp2_with fail
          go_roundw
          case rel => exact ⟨k + 1, by omega, by rw [HSN.out, HH.out, Bool.false_or], by go_num, Lib.hid (QR.out.on hW), Lib.hid (below_on BR.out hW)⟩
          case measure => simp [intOf]; omega
      obtain rfl : k = nb := by omega
      have HTK := Lib.hid (show (BY.take k).any (hitB L (mw RU) acc now) = true by rw [← HNB.out, List.take_length]; exact HANY.out)
      rw [HTK.out]
      go_wp2_with fail
      go_ret
      exact ⟨rfl, BR.out⟩
  have g170 : (er == 170) = false := by simpa using h170
  by_cases he : er = 0
  rotate_left 1
  · have ge : (er != 0) = true := by simpa using he
    have hX0 := whole_err HX.out he
    subst hX0
    obtain rfl : m = 0 := HM.out.symm
    clear he h170
    go_wp2_with fail
    go_ret
    exact ⟨rfl, B2.out⟩
  subst he
  obtain ⟨hck, hall⟩ := whole_ok HX.out
  have hlm : m ≤ 1048576 := by have := (chkS_ok hck).2; have := HM.out; omega
  have HALL := Lib.hid hall
  have PK := Lib.hid (fun A c w hs => Check_k A m c X HM.out hlm 0 hck w hs)
  have PX := Lib.hid (fun A c (N : ByteArray) al PA pn pc km lm mo wi rule r h w hs => Left_k A m c X HM.out hlm N al PA pn pc km lm mo wi rule acc now r h w hs)
  clear hck hall h170
  go_wp2_with fail
  go_loopw [15, 16, 17, 18, 19] (fun i _ _ _ _ wr => ∃ (k : Nat), k ≤ nr ∧ i = .int .i64 k ∧ Hid (QS wr wr.heap.size A L) ∧ Hid (QS wr wr.heap.size A1 X) ∧ Hid (Below w.heap.size w wr)) (fun i _ _ _ _ _ => nr - (intOf i).toNat)
  case atStart => exact ⟨0, Nat.zero_le _, rfl, Q0, Q1, B2⟩
  case round =>
    obtain ⟨k, hk, rfl, QR, QX, BR⟩ := hrel
    by_cases hlt : k < nr
    · have hkR : k < RU.length := by have := HNR.out; omega
      have hk0 : (0 : Int) ≤ (k : Int) := by omega
      have HK := Lib.hid (HALL.out k (by rw [HML.out]; exact hkR))
      have HMW := Lib.hid (show (mw RU)[k]'(by rw [HML.out]; exact hkR) = (RU[k].mo, RU[k].wi) by simp [mw])
      rw [HMW.out] at HK
      obtain ⟨cb, hcb⟩ : ∃ cb, BY.contains (k : Int) = cb := ⟨_, rfl⟩
      have HCB := Lib.hid hcb
      rw [hcb] at HK
      clear hcb
      obtain ⟨adr, eR, hbR, r0, r1, r2, r3, r4, r5, r6⟩ := (HRS.out.on BR.out) k hkR
      subst eR
      have HRK := Lib.hid (And.intro r0 (And.intro r1 (And.intro r2 (And.intro r3 (And.intro r4 (And.intro r5 r6))))))
      clear r0 r1 r2 r3 r4 r5 r6
      go_wp2_with fail
      go_loop [16, 17] (fun s j => ∃ (q : Nat), q ≤ nb ∧ s = .bool ((BY.take q).contains (k : Int)) ∧ j = .int .i64 q) (fun _ j => nb - (intOf j).toNat)
      case atStart => exact ⟨0, Nat.zero_le _, rfl, rfl⟩
      case round =>
        obtain ⟨q, hq, rfl, rfl⟩ := hrel
        by_cases hqn : q < nb
        · have hqx : q < BY.length := by have := HNB.out; omega
          have HSN := Lib.hid (contains_snocI (i := (k : Int)) q hqx)
          obtain ⟨adb, eb, hadb, ct⟩ := (HBS.out.on17 BR.out) q hqx
          subst eb
          rw [List.getElem?_eq_getElem hqx, Option.getD_some] at ct
          have hq0 : (0 : Int) ≤ (q : Int) := by omega
          generalize (BY.take q).contains (k : Int) = pb at HSN ⊢
          generalize BY[q] = y at ct HSN
          cases pb with
          | true =>
            go_wp2_with fail
            go_round
            case rel => exact ⟨q + 1, by omega, by rw [HSN.out, Bool.true_or], by go_num⟩
            case measure => simp [intOf]; omega
          | false =>
            cases hy : y == (k : Int) with
            | true =>
              have HY := Lib.hid hy
              go_wp2_with fail
              go_round
              case rel => exact ⟨q + 1, by omega, by rw [HSN.out, HY.out, Bool.or_true], by go_num⟩
              case measure => simp [intOf]; omega
            | false =>
              have HY := Lib.hid hy
              go_wp2_with fail
              go_round
              case rel => exact ⟨q + 1, by omega, by rw [HSN.out, HY.out, Bool.or_false], by go_num⟩
              case measure => simp [intOf]; omega
        obtain rfl : q = nb := by omega
        have HTK := Lib.hid (show (BY.take q).contains (k : Int) = cb by rw [← HNB.out, List.take_length]; exact HCB.out)
        rw [HTK.out]
        clear HTK HCB
        obtain ⟨r0, r1, r2, r3, r4, r5, r6⟩ := HRK.out
        generalize RU[k].N = RN, RU[k].al = ral, RU[k].PA = RPA, RU[k].pn = rpn, RU[k].pc = rpc, RU[k].km = rkm, RU[k].lm = rlm, RU[k].mo = rmo, RU[k].wi = rwi at r0 r1 r2 r3 r4 r5 r6 HK
        obtain ⟨l0, hl0⟩ : ∃ l0, leftS L rmo rwi k acc now = l0 := ⟨_, rfl⟩
        obtain ⟨l1, hl1⟩ : ∃ l1, leftS X rmo rwi k acc now = l1 := ⟨_, rfl⟩
        have P0 := Lib.hid (fun w hs => PL.out RN ral RPA rpn rpc rkm rlm rmo rwi k l0 hl0 w hs)
        have P1 := Lib.hid (fun w hs => PX.out A1 c1 RN ral RPA rpn rpc rkm rlm rmo rwi k l1 hl1 w hs)
        have hmx := left_max X rmo rwi k acc now
        rw [hl1] at hmx
        have HE := Lib.hid (show l1 + (if cb = true ∧ 0 < rmo then 1 else 0) = l0 from by have := HK.out; simp only [hl0, hl1] at this; exact this)
        clear hl0 hl1 HK HMW HRK
        have hw1 : IntKind.i64.wrap (l1 + 1) = l1 + 1 := IntWalk.i64_in _ (by omega)
        have HLR := Lib.hid (show (adr.add (k * 7)).block < wr.heap.size by rw [block_of_add]; exact hbR)
        by_cases hpl : cb = true ∧ 0 < rmo
        · obtain ⟨rfl, hrm⟩ := hpl
          have gm : decide (0 < rmo) = true := decide_eq_true hrm
          obtain rfl : l0 = l1 + 1 := by rw [← HE.out, if_pos ⟨rfl, hrm⟩]
          go_wp2_with fail
          (with_reducible refine (P0.out _ QR.out).mono ?_)
          rintro e wa ⟨rfl, b⟩
          have KA := Lib.hid b
          have B41 := Lib.hid (below_on BR.out b)
          replace QR := Lib.hid (QR.out.on b)
          replace QX := Lib.hid (QX.out.on b)
          clear b
          have s0 := (KA.out.cell (p := (adr.add (k * 7))) HLR.out).trans r0
          have s1 := (KA.out.cell (p := ⟨(adr.add (k * 7)).block, (adr.add (k * 7)).off + 1, none⟩) HLR.out).trans r1
          have s2 := (KA.out.cell (p := ⟨(adr.add (k * 7)).block, (adr.add (k * 7)).off + 2, none⟩) HLR.out).trans r2
          have s3 := (KA.out.cell (p := ⟨(adr.add (k * 7)).block, (adr.add (k * 7)).off + 3, none⟩) HLR.out).trans r3
          have s4 := (KA.out.cell (p := ⟨(adr.add (k * 7)).block, (adr.add (k * 7)).off + 4, none⟩) HLR.out).trans r4
          have s5 := (KA.out.cell (p := ⟨(adr.add (k * 7)).block, (adr.add (k * 7)).off + 5, none⟩) HLR.out).trans r5
          have s6 := (KA.out.cell (p := ⟨(adr.add (k * 7)).block, (adr.add (k * 7)).off + 6, none⟩) HLR.out).trans r6
          go_wp2_with fail
          (with_reducible refine (P1.out _ QX.out).mono ?_)
          rintro e wb ⟨rfl, b⟩
          have KB := Lib.hid (below_on KA.out b)
          have B42 := Lib.hid (below_on B41.out b)
          replace QR := Lib.hid (QR.out.on b)
          replace QX := Lib.hid (QX.out.on b)
          clear b s0 s1 s2 s3 s4 s5 s6
          have s0 := (KB.out.cell (p := (adr.add (k * 7))) HLR.out).trans r0
          have s1 := (KB.out.cell (p := ⟨(adr.add (k * 7)).block, (adr.add (k * 7)).off + 1, none⟩) HLR.out).trans r1
          have s2 := (KB.out.cell (p := ⟨(adr.add (k * 7)).block, (adr.add (k * 7)).off + 2, none⟩) HLR.out).trans r2
          have s3 := (KB.out.cell (p := ⟨(adr.add (k * 7)).block, (adr.add (k * 7)).off + 3, none⟩) HLR.out).trans r3
          have s4 := (KB.out.cell (p := ⟨(adr.add (k * 7)).block, (adr.add (k * 7)).off + 4, none⟩) HLR.out).trans r4
          have s5 := (KB.out.cell (p := ⟨(adr.add (k * 7)).block, (adr.add (k * 7)).off + 5, none⟩) HLR.out).trans r5
          have s6 := (KB.out.cell (p := ⟨(adr.add (k * 7)).block, (adr.add (k * 7)).off + 6, none⟩) HLR.out).trans r6
          go_wp2_with fail
          go_roundw
          case rel => exact ⟨k + 1, by omega, by go_num, QR, QX, B42⟩
          case measure => simp [intOf]; omega
        obtain rfl : l0 = l1 := by rw [← HE.out, if_neg hpl]; omega
        cases cb with
        | true =>
          have gm : decide (0 < rmo) = false := decide_eq_false (fun h => hpl ⟨rfl, h⟩)
          clear hpl
          go_wp2_with fail
          (with_reducible refine (P0.out _ QR.out).mono ?_)
          rintro e wa ⟨rfl, b⟩
          have KA := Lib.hid b
          have B41 := Lib.hid (below_on BR.out b)
          replace QR := Lib.hid (QR.out.on b)
          replace QX := Lib.hid (QX.out.on b)
          clear b
          have s0 := (KA.out.cell (p := (adr.add (k * 7))) HLR.out).trans r0
          have s1 := (KA.out.cell (p := ⟨(adr.add (k * 7)).block, (adr.add (k * 7)).off + 1, none⟩) HLR.out).trans r1
          have s2 := (KA.out.cell (p := ⟨(adr.add (k * 7)).block, (adr.add (k * 7)).off + 2, none⟩) HLR.out).trans r2
          have s3 := (KA.out.cell (p := ⟨(adr.add (k * 7)).block, (adr.add (k * 7)).off + 3, none⟩) HLR.out).trans r3
          have s4 := (KA.out.cell (p := ⟨(adr.add (k * 7)).block, (adr.add (k * 7)).off + 4, none⟩) HLR.out).trans r4
          have s5 := (KA.out.cell (p := ⟨(adr.add (k * 7)).block, (adr.add (k * 7)).off + 5, none⟩) HLR.out).trans r5
          have s6 := (KA.out.cell (p := ⟨(adr.add (k * 7)).block, (adr.add (k * 7)).off + 6, none⟩) HLR.out).trans r6
          go_wp2_with fail
          (with_reducible refine (P1.out _ QX.out).mono ?_)
          rintro e wb ⟨rfl, b⟩
          have KB := Lib.hid (below_on KA.out b)
          have B42 := Lib.hid (below_on B41.out b)
          replace QR := Lib.hid (QR.out.on b)
          replace QX := Lib.hid (QX.out.on b)
          clear b s0 s1 s2 s3 s4 s5 s6
          have s0 := (KB.out.cell (p := (adr.add (k * 7))) HLR.out).trans r0
          have s1 := (KB.out.cell (p := ⟨(adr.add (k * 7)).block, (adr.add (k * 7)).off + 1, none⟩) HLR.out).trans r1
          have s2 := (KB.out.cell (p := ⟨(adr.add (k * 7)).block, (adr.add (k * 7)).off + 2, none⟩) HLR.out).trans r2
          have s3 := (KB.out.cell (p := ⟨(adr.add (k * 7)).block, (adr.add (k * 7)).off + 3, none⟩) HLR.out).trans r3
          have s4 := (KB.out.cell (p := ⟨(adr.add (k * 7)).block, (adr.add (k * 7)).off + 4, none⟩) HLR.out).trans r4
          have s5 := (KB.out.cell (p := ⟨(adr.add (k * 7)).block, (adr.add (k * 7)).off + 5, none⟩) HLR.out).trans r5
          have s6 := (KB.out.cell (p := ⟨(adr.add (k * 7)).block, (adr.add (k * 7)).off + 6, none⟩) HLR.out).trans r6
          go_wp2_with fail
          go_roundw
          case rel => exact ⟨k + 1, by omega, by go_num, QR, QX, B42⟩
          case measure => simp [intOf]; omega
        | false =>
          clear hpl
          go_wp2_with fail
          (with_reducible refine (P0.out _ QR.out).mono ?_)
          rintro e wa ⟨rfl, b⟩
          have KA := Lib.hid b
          have B41 := Lib.hid (below_on BR.out b)
          replace QR := Lib.hid (QR.out.on b)
          replace QX := Lib.hid (QX.out.on b)
          clear b
          have s0 := (KA.out.cell (p := (adr.add (k * 7))) HLR.out).trans r0
          have s1 := (KA.out.cell (p := ⟨(adr.add (k * 7)).block, (adr.add (k * 7)).off + 1, none⟩) HLR.out).trans r1
          have s2 := (KA.out.cell (p := ⟨(adr.add (k * 7)).block, (adr.add (k * 7)).off + 2, none⟩) HLR.out).trans r2
          have s3 := (KA.out.cell (p := ⟨(adr.add (k * 7)).block, (adr.add (k * 7)).off + 3, none⟩) HLR.out).trans r3
          have s4 := (KA.out.cell (p := ⟨(adr.add (k * 7)).block, (adr.add (k * 7)).off + 4, none⟩) HLR.out).trans r4
          have s5 := (KA.out.cell (p := ⟨(adr.add (k * 7)).block, (adr.add (k * 7)).off + 5, none⟩) HLR.out).trans r5
          have s6 := (KA.out.cell (p := ⟨(adr.add (k * 7)).block, (adr.add (k * 7)).off + 6, none⟩) HLR.out).trans r6
          go_wp2_with fail
          (with_reducible refine (P1.out _ QX.out).mono ?_)
          rintro e wb ⟨rfl, b⟩
          have KB := Lib.hid (below_on KA.out b)
          have B42 := Lib.hid (below_on B41.out b)
          replace QR := Lib.hid (QR.out.on b)
          replace QX := Lib.hid (QX.out.on b)
          clear b s0 s1 s2 s3 s4 s5 s6
          have s0 := (KB.out.cell (p := (adr.add (k * 7))) HLR.out).trans r0
          have s1 := (KB.out.cell (p := ⟨(adr.add (k * 7)).block, (adr.add (k * 7)).off + 1, none⟩) HLR.out).trans r1
          have s2 := (KB.out.cell (p := ⟨(adr.add (k * 7)).block, (adr.add (k * 7)).off + 2, none⟩) HLR.out).trans r2
          have s3 := (KB.out.cell (p := ⟨(adr.add (k * 7)).block, (adr.add (k * 7)).off + 3, none⟩) HLR.out).trans r3
          have s4 := (KB.out.cell (p := ⟨(adr.add (k * 7)).block, (adr.add (k * 7)).off + 4, none⟩) HLR.out).trans r4
          have s5 := (KB.out.cell (p := ⟨(adr.add (k * 7)).block, (adr.add (k * 7)).off + 5, none⟩) HLR.out).trans r5
          have s6 := (KB.out.cell (p := ⟨(adr.add (k * 7)).block, (adr.add (k * 7)).off + 6, none⟩) HLR.out).trans r6
          go_wp2_with fail
          go_roundw
          case rel => exact ⟨k + 1, by omega, by go_num, QR, QX, B42⟩
          case measure => simp [intOf]; omega
    · obtain rfl : k = nr := by omega
      go_wp2_with fail
      (with_reducible refine (PK.out A1 c1 _ QX.out).mono ?_)
      rintro e w41 ⟨rfl, b⟩
      have B41 := Lib.hid (below_on BR.out b)
      replace QR := Lib.hid (QR.out.on b)
      replace QX := Lib.hid (QX.out.on b)
      clear b
      go_wp2_with fail
      go_ret
      exact ⟨rfl, B41.out⟩
end Go.Proofs.Ytnjmhijfaijopaa

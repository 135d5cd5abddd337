/- All of both. (Printed by tools/gen_budget_x.py.) -/
import Derived.Test.YtnjmhijfaijopaaBudgetV
import Derived.Test.YtnjmhijfaijopaaBudgetSpendsWalk
namespace Go.Proofs.Ytnjmhijfaijopaa
open Go.ChangeShapes Go.WideShapes Go.ChangeAt Go.RowKit Gs
set_option linter.unusedVariables false
set_option linter.unusedSimpArgs false

theorem own_sliceN {w : World} {B n : Nat} {v : Value} {l : List Sp} (h : OwnQ w B v l) (hn : l.length = n) : ∃ A c, v = .slice A n c ∧ (n ≤ c ∧ c ≤ maxLen) ∧ QS w w.heap.size A l := by
  subst hn
  obtain ⟨A, c, e, h1, h2, h3, _⟩ := own_sliceQ h
  exact ⟨A, c, e, ⟨h1, h2⟩, h3⟩
/-- What All tells. -/
def AllE (L : List Sp) (rs : List (Int × Int)) (BY : List Int) (acc now : Int) (w0 : World) (e : Ending) (w' : World) : Prop :=
  ∃ (A' : Option Addr) (c' : Nat) (X : List Sp) (er : Int) (m : Nat), allS L rs BY acc now = (X, er) ∧ X.length = m ∧ e = .returned (.tuple #[.slice A' m c', .int .i64 er]) ∧ (m ≤ c' ∧ c' ≤ maxLen) ∧ QS w' w'.heap.size A' X ∧ Below w0.heap.size w0 w'
theorem allE_no {L : List Sp} {rs : List (Int × Int)} {BY : List Int} {acc now er : Int} {w0 w' : World} (h : allS L rs BY acc now = ([], er)) (hb : Below w0.heap.size w0 w') : AllE L rs BY acc now w0 (.returned (.tuple #[.slice none 0 0, .int .i64 er])) w' :=
  ⟨none, 0, [], er, 0, h, rfl, rfl, ⟨Nat.le_refl _, by unfold maxLen; omega⟩, QS.nil _ _ _, hb⟩
theorem allE_yes {L X : List Sp} {rs : List (Int × Int)} {BY : List Int} {acc now : Int} {w0 w' : World} {A : Option Addr} {m c : Nat} (h : allS L rs BY acc now = (X, 0)) (hm : X.length = m) (hc : m ≤ c ∧ c ≤ maxLen) (hq : QS w' w'.heap.size A X) (hb : Below w0.heap.size w0 w') : AllE L rs BY acc now w0 (.returned (.tuple #[.slice A m c, .int .i64 0])) w' :=
  ⟨A, c, X, 0, m, h, hm, rfl, hc, hq, hb⟩
/-- What holds at each round's head. -/
def AllR (nr : Nat) (L : List Sp) (rs : List (Int × Int)) (BY : List Int) (acc now : Int) (w0 : World) (l i : Value) (wr : World) : Prop :=
  ∃ (k m c : Nat) (A : Option Addr) (Y : List Sp), k ≤ nr ∧ l = .slice A m c ∧ i = .int .i64 k ∧ Y.length = m ∧ chkS Y = 0 ∧ allGo BY acc now k (rs.drop k) Y = allGo BY acc now 0 rs L ∧ (m ≤ c ∧ c ≤ maxLen) ∧ QS wr wr.heap.size A Y ∧ Below w0.heap.size w0 wr
theorem allGo_skip {BY : List Int} {acc now : Int} {k : Nat} {r : Int × Int} {rs : List (Int × Int)} {Y : List Sp} (h : BY.contains (k : Int) = false) : allGo BY acc now k (r :: rs) Y = allGo BY acc now (k + 1) rs Y := by
  rw [allGo, if_neg (by rw [h]; decide)]
theorem allGo_yes {BY : List Int} {acc now : Int} {k : Nat} {r : Int × Int} {rs : List (Int × Int)} {Y Z : List Sp} (h : BY.contains (k : Int) = true) (hs : spendS Y r.1 r.2 k acc now = (Z, 0)) : allGo BY acc now k (r :: rs) Y = allGo BY acc now (k + 1) rs Z := by
  rw [allGo, if_pos h, hs, if_pos rfl]
theorem allGo_err {BY : List Int} {acc now er : Int} {k : Nat} {r : Int × Int} {rs : List (Int × Int)} {Y Z : List Sp} (h : BY.contains (k : Int) = true) (hs : spendS Y r.1 r.2 k acc now = (Z, er)) (he : ¬ er = 0) : allGo BY acc now k (r :: rs) Y = ([], er) := by
  rw [allGo, if_pos h, hs, if_neg he]
section
variable (A : Option Addr) (n c : Nat) (L : List Sp) (hn : L.length = n) (hl : n ≤ 1048576) (AR : Option Addr) (nr cr : Nat) (RU : List Ru) (hnr : RU.length = nr) (hlr : nr ≤ 1048576) (AB : Option Addr) (nb cb : Nat) (BY : List Int) (hnb : BY.length = nb) (hlb : nb ≤ 1048576)
include hn hl hnr hlr hnb hlb
set_option maxHeartbeats 32000000 in
set_option maxRecDepth 100000 in
theorem All17_any (acc now : Int) (w : World) (hs : QS w w.heap.size A L) (hr : RS w w.heap.size AR RU) (hby : SI w w.heap.size .i64 AB BY) : Calls Try.prog 21 #[.slice A n c, .slice AR nr cr, .slice AB nb cb, .int .i64 acc, .int .i64 now] w (AllE L (mw RU) BY acc now w) := by
  have HS := Lib.hid (hs)
  have HRS := Lib.hid (hr)
  have HBS := Lib.hid (hby)
  clear hs hr hby
  obtain ⟨ch, hch⟩ : ∃ ch, chkS L = ch := ⟨_, rfl⟩
  have PC := Lib.hid (fun w hs => Check_k A n c L hn hl ch hch w hs)
  have PN1 := Lib.hid (isNumber_any acc)
  have PN2 := Lib.hid (isNumber_any now)
  have PCF := Lib.hid (fun W hs h0 => containsF_any AB nb cb BY hnb (by omega) w.heap.size AR nr cr (by omega) W hs h0)
  have PCI := Lib.hid (containsI_any AB nb cb BY hnb (by omega))
  have PCL := Lib.hid (fun w hs => Clone_anyQ A n c (cellsQ L) hl w hs (cellsQ_one L))
  have HALL := Lib.hid (show allS L (mw RU) BY acc now = if chkS L = 0 then (if BY.any (noneB nr) || !nmB acc || !nmB now then ([], 1) else allGo BY acc now 0 (mw RU) L) else ([], chkS L) by unfold allS; rw [mw_len, hnr])
  have HN := Lib.hid hn
  have HNR := Lib.hid hnr
  have HNB := Lib.hid hnb
  clear hn hnr hnb
  have X := Lib.hid (Blk.new w 36 #[.slice AR nr cr])
  have hb0 := (Below.refl w.heap.size w).alloc (Nat.le_refl _) (.cells #[.slice AR nr cr] 36)
  have B0 := Lib.hid (hb0)
  clear hb0
  by_cases hc0 : ch = 0
  rotate_left 1
  · have gc : (ch != 0) = true := by simpa using hc0
    have HE := Lib.hid (show allS L (mw RU) BY acc now = ([], ch) by rw [HALL.out, if_neg (by rw [hch]; exact hc0), hch])
    clear hc0 hch
    go_enter Try.func21, Try.ntmps21
    go_wp2_with fail
    generalize (w.alloc (.cells #[.slice AR nr cr] 36)) = w0 at B0 X ⊢
    (with_reducible refine (PC.out _ (HS.out.on B0.out)).mono ?_)
    rintro e w1 ⟨rfl, b⟩
    have B1 := Lib.hid (below_on B0.out b)
    replace X := Lib.hid (X.out.below b X.out.lt)
    clear b
    have x0 : w1.cell? ⟨w.heap.size, 0, none⟩ = some (.slice AR nr cr) := X.out.cell 0
    have XC := Lib.hid x0
    go_wp2_with fail
    refine bodyPost_ret (v := .tuple #[.slice none 0 0, .int .i64 ch]) (by simp [results, Try.results21, go_sem]) rfl ?_
    exact allE_no HE.out B1.out
  subst hc0
  have HCK := Lib.hid hch
  replace HALL := Lib.hid (show allS L (mw RU) BY acc now = if BY.any (noneB nr) || !nmB acc || !nmB now then ([], 1) else allGo BY acc now 0 (mw RU) L by rw [HALL.out, if_pos hch])
  clear hch
  cases hany : BY.any (noneB nr) with
  | true =>
    have HE := Lib.hid (show allS L (mw RU) BY acc now = ([], 1) by rw [HALL.out, hany]; rfl)
    rw [hany] at PCF
    clear hany
    go_enter Try.func21, Try.ntmps21
    go_wp2_with fail
    generalize (w.alloc (.cells #[.slice AR nr cr] 36)) = w0 at B0 X ⊢
    (with_reducible refine (PC.out _ (HS.out.on B0.out)).mono ?_)
    rintro e w1 ⟨rfl, b⟩
    have B1 := Lib.hid (below_on B0.out b)
    replace X := Lib.hid (X.out.below b X.out.lt)
    clear b
    have x0 : w1.cell? ⟨w.heap.size, 0, none⟩ = some (.slice AR nr cr) := X.out.cell 0
    have XC := Lib.hid x0
    go_wp2_with fail
    (with_reducible refine (PCF.out _ (HBS.out.on17 B1.out) XC.out).mono ?_)
    rintro e _ ⟨rfl, rfl⟩
    go_wp2_with fail
    refine bodyPost_ret (v := .tuple #[.slice none 0 0, .int .i64 1]) (by simp [results, Try.results21, go_sem]) rfl ?_
    exact allE_no HE.out B1.out
  | false =>
    rw [hany] at PCF HALL
    clear hany
    cases hq0 : nmB acc with
    | false =>
      rw [hq0] at PN1
      have HE := Lib.hid (show allS L (mw RU) BY acc now = ([], 1) by rw [HALL.out, hq0]; simp)
      clear hq0
      go_enter Try.func21, Try.ntmps21
      go_wp2_with fail
      generalize (w.alloc (.cells #[.slice AR nr cr] 36)) = w0 at B0 X ⊢
      (with_reducible refine (PC.out _ (HS.out.on B0.out)).mono ?_)
      rintro e w1 ⟨rfl, b⟩
      have B1 := Lib.hid (below_on B0.out b)
      replace X := Lib.hid (X.out.below b X.out.lt)
      clear b
      have x0 : w1.cell? ⟨w.heap.size, 0, none⟩ = some (.slice AR nr cr) := X.out.cell 0
      have XC := Lib.hid x0
      go_wp2_with fail
      (with_reducible refine (PCF.out _ (HBS.out.on17 B1.out) XC.out).mono ?_)
      rintro e _ ⟨rfl, rfl⟩
      go_wp2_with fail
      (with_reducible refine (PN1.out _).mono ?_)
      rintro e _ ⟨rfl, rfl⟩
      go_wp2_with fail
      refine bodyPost_ret (v := .tuple #[.slice none 0 0, .int .i64 1]) (by simp [results, Try.results21, go_sem]) rfl ?_
      exact allE_no HE.out B1.out
    | true =>
      rw [hq0] at PN1 HALL
      clear hq0
      cases hq1 : nmB now with
      | false =>
        rw [hq1] at PN2
        have HE := Lib.hid (show allS L (mw RU) BY acc now = ([], 1) by rw [HALL.out, hq1]; simp)
        clear hq1
        go_enter Try.func21, Try.ntmps21
        go_wp2_with fail
        generalize (w.alloc (.cells #[.slice AR nr cr] 36)) = w0 at B0 X ⊢
        (with_reducible refine (PC.out _ (HS.out.on B0.out)).mono ?_)
        rintro e w1 ⟨rfl, b⟩
        have B1 := Lib.hid (below_on B0.out b)
        replace X := Lib.hid (X.out.below b X.out.lt)
        clear b
        have x0 : w1.cell? ⟨w.heap.size, 0, none⟩ = some (.slice AR nr cr) := X.out.cell 0
        have XC := Lib.hid x0
        go_wp2_with fail
        (with_reducible refine (PCF.out _ (HBS.out.on17 B1.out) XC.out).mono ?_)
        rintro e _ ⟨rfl, rfl⟩
        go_wp2_with fail
        (with_reducible refine (PN1.out _).mono ?_)
        rintro e _ ⟨rfl, rfl⟩
        go_wp2_with fail
        (with_reducible refine (PN2.out _).mono ?_)
        rintro e _ ⟨rfl, rfl⟩
        go_wp2_with fail
        refine bodyPost_ret (v := .tuple #[.slice none 0 0, .int .i64 1]) (by simp [results, Try.results21, go_sem]) rfl ?_
        exact allE_no HE.out B1.out
      | true =>
        rw [hq1] at PN2 HALL
        clear hq1
        replace HALL := Lib.hid (show allS L (mw RU) BY acc now = allGo BY acc now 0 (mw RU) L from HALL.out)
        go_enter Try.func21, Try.ntmps21
        go_wp2_with fail
        generalize (w.alloc (.cells #[.slice AR nr cr] 36)) = w0 at B0 X ⊢
        (with_reducible refine (PC.out _ (HS.out.on B0.out)).mono ?_)
        rintro e w1 ⟨rfl, b⟩
        have B1 := Lib.hid (below_on B0.out b)
        replace X := Lib.hid (X.out.below b X.out.lt)
        clear b
        have x0 : w1.cell? ⟨w.heap.size, 0, none⟩ = some (.slice AR nr cr) := X.out.cell 0
        have XC := Lib.hid x0
        go_wp2_with fail
        (with_reducible refine (PCF.out _ (HBS.out.on17 B1.out) XC.out).mono ?_)
        rintro e _ ⟨rfl, rfl⟩
        go_wp2_with fail
        (with_reducible refine (PN1.out _).mono ?_)
        rintro e _ ⟨rfl, rfl⟩
        go_wp2_with fail
        (with_reducible refine (PN2.out _).mono ?_)
        rintro e _ ⟨rfl, rfl⟩
        go_wp2_with fail
        (with_reducible refine (PCL.out _ (HN.out ▸ reads_qs (HS.out.on B1.out))).mono ?_)
        rintro e w2 ⟨v, rfl, ho, b⟩
        clear x0
        have B2 := Lib.hid (below_on B1.out b)
        replace X := Lib.hid (X.out.below b X.out.lt)
        clear b
        obtain ⟨A2, c2, rfl, hcc, hqs⟩ := own_sliceN (own_q ho HN.out.symm rfl) HN.out
        have Q := Lib.hid hqs
        have QC := Lib.hid hcc
        clear ho hqs hcc
        have x0 : w2.cell? ⟨w.heap.size, 0, none⟩ = some (.slice AR nr cr) := X.out.cell 0
        go_wp2_with fail
        have BW := B2
        go_loopw [0, 40] (fun l i wr => AllR nr L (mw RU) BY acc now w l i wr) (fun _ i _ => nr - (intOf i).toNat)
        case atStart => exact ⟨0, n, c2, A2, L, Nat.zero_le _, rfl, rfl, HN.out, HCK.out, rfl, QC.out, Q.out, B2.out⟩
        case round =>
          obtain ⟨k, m, c3, A3, Y, hk, rfl, rfl, hm, hck, hgo, hcc, hq, hb⟩ := hrel
          have hm4 : m ≤ 1048576 := by have := (chkS_ok hck).2; omega
          have HM := Lib.hid hm
          have HCY := Lib.hid hck
          have HGO := Lib.hid hgo
          have HCC := Lib.hid hcc
          have Q3 := Lib.hid hq
          have BR := Lib.hid hb
          clear hm hck hgo hcc hq hb
          by_cases hlt : k < nr
          · have hkR : k < RU.length := by have := HNR.out; omega
            have hk0 : (0 : Int) ≤ (k : Int) := by omega
            have HDR := Lib.hid (mw_drop (l := RU) k hkR)
            obtain ⟨adr, eR, hbR, r0, r1, r2, r3, r4, r5, r6⟩ := (HRS.out.on BR.out) k hkR
            subst eR
            generalize hRN : RU[k].N = RN, hral : RU[k].al = ral, hRPA : RU[k].PA = RPA, hrpn : RU[k].pn = rpn, hrpc : RU[k].pc = rpc, hrkm : RU[k].km = rkm, hrlm : RU[k].lm = rlm, hrmo : RU[k].mo = rmo, hrwi : RU[k].wi = rwi at r0 r1 r2 r3 r4 r5 r6 HDR
            clear hRN hral hRPA hrpn hrpc hrkm hrlm hrmo hrwi
            obtain ⟨Z, er, hsp⟩ : ∃ Z er, spendS Y rmo rwi k acc now = (Z, er) := ⟨_, _, rfl⟩
            obtain ⟨mz, hmz⟩ : ∃ mz, Z.length = mz := ⟨_, rfl⟩
            have PS := Lib.hid (fun w hs => Spend_k A3 m c3 Y HM.out hm4 RN ral RPA rpn rpc rkm rlm rmo rwi k acc now Z er mz hsp hmz w hs)
            cases hcon : BY.contains (k : Int) with
            | false =>
              have PCX := Lib.hid (PCI.out k)
              rw [hcon] at PCX
              have HGN := Lib.hid (show allGo BY acc now (k + 1) ((mw RU).drop (k + 1)) Y = allGo BY acc now 0 (mw RU) L by rw [← HGO.out, HDR.out, allGo_skip hcon])
              clear hcon hsp hmz
              have na := (Below.refl wr.heap.size wr).alloc (Nat.le_refl _) (.cells #[.string RN, .bool ral, .slice RPA rpn rpc, .int .u64 rkm, .int .i64 rlm, .int .i64 rmo, .int .i64 rwi] 28)
              replace Q3 := Lib.hid (Q3.out.on na)
              have B31 := Lib.hid (below_on BR.out na)
              have RB := Lib.hid (Blk.new wr 28 #[.string RN, .bool ral, .slice RPA rpn rpc, .int .u64 rkm, .int .i64 rlm, .int .i64 rmo, .int .i64 rwi])
              clear na
              have q0 : (wr.alloc (.cells #[.string RN, .bool ral, .slice RPA rpn rpc, .int .u64 rkm, .int .i64 rlm, .int .i64 rmo, .int .i64 rwi] 28)).cell? ⟨wr.heap.size, 0, none⟩ = some (.string RN) := RB.out.cell 0
              have q1 : (wr.alloc (.cells #[.string RN, .bool ral, .slice RPA rpn rpc, .int .u64 rkm, .int .i64 rlm, .int .i64 rmo, .int .i64 rwi] 28)).cell? ⟨wr.heap.size, 1, none⟩ = some (.bool ral) := RB.out.cell 1
              have q2 : (wr.alloc (.cells #[.string RN, .bool ral, .slice RPA rpn rpc, .int .u64 rkm, .int .i64 rlm, .int .i64 rmo, .int .i64 rwi] 28)).cell? ⟨wr.heap.size, 2, none⟩ = some (.slice RPA rpn rpc) := RB.out.cell 2
              have q3 : (wr.alloc (.cells #[.string RN, .bool ral, .slice RPA rpn rpc, .int .u64 rkm, .int .i64 rlm, .int .i64 rmo, .int .i64 rwi] 28)).cell? ⟨wr.heap.size, 3, none⟩ = some (.int .u64 rkm) := RB.out.cell 3
              have q4 : (wr.alloc (.cells #[.string RN, .bool ral, .slice RPA rpn rpc, .int .u64 rkm, .int .i64 rlm, .int .i64 rmo, .int .i64 rwi] 28)).cell? ⟨wr.heap.size, 4, none⟩ = some (.int .i64 rlm) := RB.out.cell 4
              have q5 : (wr.alloc (.cells #[.string RN, .bool ral, .slice RPA rpn rpc, .int .u64 rkm, .int .i64 rlm, .int .i64 rmo, .int .i64 rwi] 28)).cell? ⟨wr.heap.size, 5, none⟩ = some (.int .i64 rmo) := RB.out.cell 5
              have q6 : (wr.alloc (.cells #[.string RN, .bool ral, .slice RPA rpn rpc, .int .u64 rkm, .int .i64 rlm, .int .i64 rmo, .int .i64 rwi] 28)).cell? ⟨wr.heap.size, 6, none⟩ = some (.int .i64 rwi) := RB.out.cell 6
              go_wp2_with fail
              generalize wr.alloc (.cells #[.string RN, .bool ral, .slice RPA rpn rpc, .int .u64 rkm, .int .i64 rlm, .int .i64 rmo, .int .i64 rwi] 28) = w31 at B31 RB Q3 q0 q1 q2 q3 q4 q5 q6 ⊢
              (with_reducible refine (PCX.out _ (HBS.out.on17 B31.out)).mono ?_)
              rintro e _ ⟨rfl, rfl⟩
              go_wp2_with fail
              go_roundw
              case rel => exact ⟨k + 1, m, c3, A3, Y, by omega, rfl, by go_num, HM.out, HCY.out, HGN.out, HCC.out, Q3.out, B31.out⟩
              case measure => simp [intOf]; omega
            | true =>
              have PCX := Lib.hid (PCI.out k)
              rw [hcon] at PCX
              by_cases he : er = 0
              rotate_left 1
              · have ge : (er != 0) = true := by simpa using he
                have HE := Lib.hid (show allS L (mw RU) BY acc now = ([], er) by rw [HALL.out, ← HGO.out, HDR.out, allGo_err hcon hsp he])
                clear hcon hsp hmz he
                have na := (Below.refl wr.heap.size wr).alloc (Nat.le_refl _) (.cells #[.string RN, .bool ral, .slice RPA rpn rpc, .int .u64 rkm, .int .i64 rlm, .int .i64 rmo, .int .i64 rwi] 28)
                replace Q3 := Lib.hid (Q3.out.on na)
                have B31 := Lib.hid (below_on BR.out na)
                have RB := Lib.hid (Blk.new wr 28 #[.string RN, .bool ral, .slice RPA rpn rpc, .int .u64 rkm, .int .i64 rlm, .int .i64 rmo, .int .i64 rwi])
                clear na
                have q0 : (wr.alloc (.cells #[.string RN, .bool ral, .slice RPA rpn rpc, .int .u64 rkm, .int .i64 rlm, .int .i64 rmo, .int .i64 rwi] 28)).cell? ⟨wr.heap.size, 0, none⟩ = some (.string RN) := RB.out.cell 0
                have q1 : (wr.alloc (.cells #[.string RN, .bool ral, .slice RPA rpn rpc, .int .u64 rkm, .int .i64 rlm, .int .i64 rmo, .int .i64 rwi] 28)).cell? ⟨wr.heap.size, 1, none⟩ = some (.bool ral) := RB.out.cell 1
                have q2 : (wr.alloc (.cells #[.string RN, .bool ral, .slice RPA rpn rpc, .int .u64 rkm, .int .i64 rlm, .int .i64 rmo, .int .i64 rwi] 28)).cell? ⟨wr.heap.size, 2, none⟩ = some (.slice RPA rpn rpc) := RB.out.cell 2
                have q3 : (wr.alloc (.cells #[.string RN, .bool ral, .slice RPA rpn rpc, .int .u64 rkm, .int .i64 rlm, .int .i64 rmo, .int .i64 rwi] 28)).cell? ⟨wr.heap.size, 3, none⟩ = some (.int .u64 rkm) := RB.out.cell 3
                have q4 : (wr.alloc (.cells #[.string RN, .bool ral, .slice RPA rpn rpc, .int .u64 rkm, .int .i64 rlm, .int .i64 rmo, .int .i64 rwi] 28)).cell? ⟨wr.heap.size, 4, none⟩ = some (.int .i64 rlm) := RB.out.cell 4
                have q5 : (wr.alloc (.cells #[.string RN, .bool ral, .slice RPA rpn rpc, .int .u64 rkm, .int .i64 rlm, .int .i64 rmo, .int .i64 rwi] 28)).cell? ⟨wr.heap.size, 5, none⟩ = some (.int .i64 rmo) := RB.out.cell 5
                have q6 : (wr.alloc (.cells #[.string RN, .bool ral, .slice RPA rpn rpc, .int .u64 rkm, .int .i64 rlm, .int .i64 rmo, .int .i64 rwi] 28)).cell? ⟨wr.heap.size, 6, none⟩ = some (.int .i64 rwi) := RB.out.cell 6
                go_wp2_with fail
                generalize wr.alloc (.cells #[.string RN, .bool ral, .slice RPA rpn rpc, .int .u64 rkm, .int .i64 rlm, .int .i64 rmo, .int .i64 rwi] 28) = w31 at B31 RB Q3 q0 q1 q2 q3 q4 q5 q6 ⊢
                (with_reducible refine (PCX.out _ (HBS.out.on17 B31.out)).mono ?_)
                rintro e _ ⟨rfl, rfl⟩
                go_wp2_with fail
                (with_reducible refine (PS.out _ Q3.out).mono ?_)
                rintro e w32 ⟨A5, c5, rfl, hcc, hq, b⟩
                clear q0 q1 q2 q3 q4 q5 q6
                have B32 := Lib.hid (below_on B31.out b)
                replace RB := Lib.hid (RB.out.below b RB.out.lt)
                replace Q3 := Lib.hid (Q3.out.on b)
                have Q5 := Lib.hid (hq)
                have Q5c := Lib.hid (hcc)
                clear b hq hcc
                go_wp2_with fail
                refine bodyPost_ret (v := .tuple #[.slice none 0 0, .int .i64 er]) (by simp [results, Try.results21, go_sem]) rfl ?_
                exact allE_no HE.out B32.out
              subst he
              have HGN := Lib.hid (show allGo BY acc now (k + 1) ((mw RU).drop (k + 1)) Z = allGo BY acc now 0 (mw RU) L by rw [← HGO.out, HDR.out, allGo_yes hcon hsp])
              have HCZ := Lib.hid (spend_ok hsp).2.1
              have HMZ := Lib.hid hmz
              clear hcon hsp hmz
              have na := (Below.refl wr.heap.size wr).alloc (Nat.le_refl _) (.cells #[.string RN, .bool ral, .slice RPA rpn rpc, .int .u64 rkm, .int .i64 rlm, .int .i64 rmo, .int .i64 rwi] 28)
              replace Q3 := Lib.hid (Q3.out.on na)
              have B31 := Lib.hid (below_on BR.out na)
              have RB := Lib.hid (Blk.new wr 28 #[.string RN, .bool ral, .slice RPA rpn rpc, .int .u64 rkm, .int .i64 rlm, .int .i64 rmo, .int .i64 rwi])
              clear na
              have q0 : (wr.alloc (.cells #[.string RN, .bool ral, .slice RPA rpn rpc, .int .u64 rkm, .int .i64 rlm, .int .i64 rmo, .int .i64 rwi] 28)).cell? ⟨wr.heap.size, 0, none⟩ = some (.string RN) := RB.out.cell 0
              have q1 : (wr.alloc (.cells #[.string RN, .bool ral, .slice RPA rpn rpc, .int .u64 rkm, .int .i64 rlm, .int .i64 rmo, .int .i64 rwi] 28)).cell? ⟨wr.heap.size, 1, none⟩ = some (.bool ral) := RB.out.cell 1
              have q2 : (wr.alloc (.cells #[.string RN, .bool ral, .slice RPA rpn rpc, .int .u64 rkm, .int .i64 rlm, .int .i64 rmo, .int .i64 rwi] 28)).cell? ⟨wr.heap.size, 2, none⟩ = some (.slice RPA rpn rpc) := RB.out.cell 2
              have q3 : (wr.alloc (.cells #[.string RN, .bool ral, .slice RPA rpn rpc, .int .u64 rkm, .int .i64 rlm, .int .i64 rmo, .int .i64 rwi] 28)).cell? ⟨wr.heap.size, 3, none⟩ = some (.int .u64 rkm) := RB.out.cell 3
              have q4 : (wr.alloc (.cells #[.string RN, .bool ral, .slice RPA rpn rpc, .int .u64 rkm, .int .i64 rlm, .int .i64 rmo, .int .i64 rwi] 28)).cell? ⟨wr.heap.size, 4, none⟩ = some (.int .i64 rlm) := RB.out.cell 4
              have q5 : (wr.alloc (.cells #[.string RN, .bool ral, .slice RPA rpn rpc, .int .u64 rkm, .int .i64 rlm, .int .i64 rmo, .int .i64 rwi] 28)).cell? ⟨wr.heap.size, 5, none⟩ = some (.int .i64 rmo) := RB.out.cell 5
              have q6 : (wr.alloc (.cells #[.string RN, .bool ral, .slice RPA rpn rpc, .int .u64 rkm, .int .i64 rlm, .int .i64 rmo, .int .i64 rwi] 28)).cell? ⟨wr.heap.size, 6, none⟩ = some (.int .i64 rwi) := RB.out.cell 6
              go_wp2_with fail
              generalize wr.alloc (.cells #[.string RN, .bool ral, .slice RPA rpn rpc, .int .u64 rkm, .int .i64 rlm, .int .i64 rmo, .int .i64 rwi] 28) = w31 at B31 RB Q3 q0 q1 q2 q3 q4 q5 q6 ⊢
              (with_reducible refine (PCX.out _ (HBS.out.on17 B31.out)).mono ?_)
              rintro e _ ⟨rfl, rfl⟩
              go_wp2_with fail
              (with_reducible refine (PS.out _ Q3.out).mono ?_)
              rintro e w32 ⟨A5, c5, rfl, hcc, hq, b⟩
              clear q0 q1 q2 q3 q4 q5 q6
              have B32 := Lib.hid (below_on B31.out b)
              replace RB := Lib.hid (RB.out.below b RB.out.lt)
              replace Q3 := Lib.hid (Q3.out.on b)
              have Q5 := Lib.hid (hq)
              have Q5c := Lib.hid (hcc)
              clear b hq hcc
              go_wp2_with fail
              go_roundw
              case rel => exact ⟨k + 1, mz, c5, A5, Z, by omega, rfl, by go_num, HMZ.out, HCZ.out, HGN.out, Q5c.out, Q5.out, B32.out⟩
              case measure => simp [intOf]; omega
          · obtain rfl : k = nr := by omega
            have HE := Lib.hid (show allS L (mw RU) BY acc now = (Y, 0) by rw [HALL.out, ← HGO.out, List.drop_eq_nil_of_le (by rw [mw_len, HNR.out]; exact Nat.le_refl _)]; rfl)
            go_wp2_with fail
            refine bodyPost_ret (v := .tuple #[.slice A3 m c3, .int .i64 0]) (by simp [results, Try.results21, go_sem]) rfl ?_
            exact allE_yes HE.out HM.out HCC.out Q3.out BR.out
set_option maxHeartbeats 32000000 in
set_option maxRecDepth 100000 in
theorem refAll17_any (acc now : Int) (w : World) (hs : QS w w.heap.size A L) (hr : RS w w.heap.size AR RU) (hby : SI w w.heap.size .i64 AB BY) : Calls Try.prog 22 #[.slice A n c, .slice AR nr cr, .slice AB nb cb, .int .i64 acc, .int .i64 now] w (AllE L (mw RU) BY acc now w) := by
  have HS := Lib.hid (hs)
  have HRS := Lib.hid (hr)
  have HBS := Lib.hid (hby)
  clear hs hr hby
  obtain ⟨ch, hch⟩ : ∃ ch, chkS L = ch := ⟨_, rfl⟩
  have PC0 := refCheck_k A n c L hn (by omega)
  rw [hch] at PC0
  have PC := Lib.hid PC0
  clear PC0
  have PN1 := Lib.hid (number17_any acc)
  have PN2 := Lib.hid (number17_any now)
  have PCI := Lib.hid (stands17_any AB nb cb BY hnb (by omega))
  have HALL := Lib.hid (show allS L (mw RU) BY acc now = if chkS L = 0 then (if BY.any (noneB nr) || !nmB acc || !nmB now then ([], 1) else allGo BY acc now 0 (mw RU) L) else ([], chkS L) by unfold allS; rw [mw_len, hnr])
  have HN := Lib.hid hn
  have HNR := Lib.hid hnr
  have HNB := Lib.hid hnb
  clear hn hnr hnb
  have B0 := Lib.hid (Below.refl w.heap.size w)
  by_cases hc0 : ch = 0
  rotate_left 1
  · have gc : (ch != 0) = true := by simpa using hc0
    have HE := Lib.hid (show allS L (mw RU) BY acc now = ([], ch) by rw [HALL.out, if_neg (by rw [hch]; exact hc0), hch])
    clear hc0 hch
    go_enter Try.func22, Try.ntmps22
    go_wp2_with fail
    (with_reducible refine (PC.out _ (HS.out.on B0.out)).mono ?_)
    rintro e w1 ⟨rfl, b⟩
    have B1 := Lib.hid (below_on B0.out b)
    clear b
    go_wp2_with fail
    refine bodyPost_ret (v := .tuple #[.slice none 0 0, .int .i64 ch]) (by simp [results, Try.results22, go_sem]) rfl ?_
    exact allE_no HE.out B1.out
  subst hc0
  have HCK := Lib.hid hch
  replace HALL := Lib.hid (show allS L (mw RU) BY acc now = if BY.any (noneB nr) || !nmB acc || !nmB now then ([], 1) else allGo BY acc now 0 (mw RU) L by rw [HALL.out, if_pos hch])
  clear hch
  go_enter Try.func22, Try.ntmps22
  go_wp2_with fail
  (with_reducible refine (PC.out _ (HS.out.on B0.out)).mono ?_)
  rintro e w1 ⟨rfl, b⟩
  have B1 := Lib.hid (below_on B0.out b)
  clear b
  go_wp2_with fail
  go_loop [13] (fun i => ∃ (k : Nat), k ≤ nb ∧ i = .int .i64 k ∧ Hid (∀ j (g : j < BY.length), j < k → noneB nr BY[j] = false)) (fun i => nb - (intOf i).toNat)
  case atStart => exact ⟨0, Nat.zero_le _, rfl, Lib.hid fun j g h => absurd h (Nat.not_lt_zero _)⟩
  case round =>
    obtain ⟨k, hk, rfl, hprev⟩ := hrel
    by_cases hlt : k < nb
    · have hkx : k < BY.length := by have := HNB.out; omega
      obtain ⟨ad, rfl, hadb, ct⟩ := (HBS.out.on17 B1.out) k hkx
      rw [List.getElem?_eq_getElem hkx, Option.getD_some] at ct
      have hk0 : (0 : Int) ≤ (k : Int) := by omega
      have HP := Lib.hid (fun (h : noneB nr BY[k] = true) => any_at (q := noneB nr) k hkx h)
      have HNX := Lib.hid (fun (h : noneB nr BY[k] = false) => (show ∀ j (g : j < BY.length), j < k + 1 → noneB nr BY[j] = false from fun j g hj => by
        rcases Nat.lt_succ_iff_lt_or_eq.1 hj with h1 | h1
        · exact hprev.out j g h1
        · subst h1; exact h))
      have HB := Lib.hid (show noneB nr BY[k] = (decide (BY[k] < -1) || decide ((nr : Int) ≤ BY[k])) from rfl)
      generalize BY[k] = x at ct HP HNX HB
      by_cases h1 : x < -1
      · have g1 : decide (x < -1) = true := decide_eq_true h1
        have HE := Lib.hid (show allS L (mw RU) BY acc now = ([], 1) by rw [HALL.out, HP.out (by rw [HB.out]; simp; omega)]; rfl)
        go_wp2_with fail
        refine bodyPost_ret (v := .tuple #[.slice none 0 0, .int .i64 1]) (by simp [results, Try.results22, go_sem]) rfl ?_
        exact allE_no HE.out B1.out
      have g1 : decide (x < -1) = false := decide_eq_false h1
      by_cases h2 : (nr : Int) ≤ x
      · have g2 : decide ((nr : Int) ≤ x) = true := decide_eq_true h2
        have HE := Lib.hid (show allS L (mw RU) BY acc now = ([], 1) by rw [HALL.out, HP.out (by rw [HB.out]; simp; omega)]; rfl)
        go_wp2_with fail
        refine bodyPost_ret (v := .tuple #[.slice none 0 0, .int .i64 1]) (by simp [results, Try.results22, go_sem]) rfl ?_
        exact allE_no HE.out B1.out
      have g2 : decide ((nr : Int) ≤ x) = false := decide_eq_false h2
      have HD := Lib.hid (show noneB nr x = false by rw [HB.out, g1, g2]; rfl)
      go_wp2_with fail
      go_round
      case rel => exact ⟨k + 1, by omega, by go_num, Lib.hid (HNX.out HD.out)⟩
      case measure => simp [intOf]; omega
    obtain rfl : k = nb := by omega
    have hany : BY.any (noneB nr) = false := any_no fun j g => hprev.out j g (by have := HNB.out; omega)
    rw [hany] at HALL
    clear hany
    cases hq0 : nmB acc with
    | false =>
      rw [hq0] at PN1
      have HE := Lib.hid (show allS L (mw RU) BY acc now = ([], 1) by rw [HALL.out, hq0]; simp)
      clear hq0
      go_wp2_with fail
      (with_reducible refine (PN1.out _).mono ?_)
      rintro e _ ⟨rfl, rfl⟩
      go_wp2_with fail
      refine bodyPost_ret (v := .tuple #[.slice none 0 0, .int .i64 1]) (by simp [results, Try.results22, go_sem]) rfl ?_
      exact allE_no HE.out B1.out
    | true =>
      rw [hq0] at PN1 HALL
      clear hq0
      cases hq1 : nmB now with
      | false =>
        rw [hq1] at PN2
        have HE := Lib.hid (show allS L (mw RU) BY acc now = ([], 1) by rw [HALL.out, hq1]; simp)
        clear hq1
        go_wp2_with fail
        (with_reducible refine (PN1.out _).mono ?_)
        rintro e _ ⟨rfl, rfl⟩
        go_wp2_with fail
        (with_reducible refine (PN2.out _).mono ?_)
        rintro e _ ⟨rfl, rfl⟩
        go_wp2_with fail
        refine bodyPost_ret (v := .tuple #[.slice none 0 0, .int .i64 1]) (by simp [results, Try.results22, go_sem]) rfl ?_
        exact allE_no HE.out B1.out
      | true =>
        rw [hq1] at PN2 HALL
        clear hq1
        replace HALL := Lib.hid (show allS L (mw RU) BY acc now = allGo BY acc now 0 (mw RU) L from HALL.out)
        obtain ⟨i0, hi, hz0, hz1, hz2⟩ := info_parts Try.info45
        have HI := Lib.hid (And.intro hi (And.intro hz0 (And.intro hz1 hz2)))
        clear hi hz0 hz1 hz2
        go_wp2_with fail
        (with_reducible refine (PN1.out _).mono ?_)
        rintro e _ ⟨rfl, rfl⟩
        go_wp2_with fail
        (with_reducible refine (PN2.out _).mono ?_)
        rintro e _ ⟨rfl, rfl⟩
        have HR := Lib.hid ((HN.out ▸ reads_qs (HS.out.on B1.out) : Reads w1 w1.heap.size 4 A n (cellsQ L)).alloc (Nat.le_refl _) (.cells #[] 45))
        have HO := Lib.hid (own_noneQ w1 (Nat.le_refl w1.heap.size))
        go_wp2_with (at_builtin; first | (refine wpList_append_any _ (by rfl) _ _ 22 (by rfl) w1.heap.size 45 i0 (.agg #[.int .i64 0, .int .i64 0, .int .i64 0, .int .i64 0]) 4 32 Try.underlying22 HI.out.1 HI.out.2.1 HI.out.2.2.1 HI.out.2.2.2 (by rfl) (by decide) _ 0 [] (by rfl) HO.out _ _ n _ _ (by rfl) HR.out (cellsQ_one L) (by unfold maxLen; omega) (by omega) (by simp) ?_; intro v4 w4 ho4 hg4 hw4; have HG4 := Lib.hid (((Below.refl w1.heap.size w1).alloc (Nat.le_refl _) _).grown hg4 (by simp) (by intro k hk; simp [Value.ownBlock] at hk; omega)); obtain ⟨A2, c2, e4, hcc, hqs⟩ := own_sliceN (own_q ho4 (by rw [HN.out]; omega) (by simp)) HN.out; subst e4; have Q := Lib.hid hqs; have QC := Lib.hid hcc; clear ho4 hg4 hw4 hqs hcc) | fail)
        have BW := Lib.hid (below_on B1.out HG4.out)
        go_wp2_with fail
        go_loopw [14, 15] (fun l i wr => AllR nr L (mw RU) BY acc now w l i wr) (fun _ i _ => nr - (intOf i).toNat)
        case atStart => exact ⟨0, n, c2, A2, L, Nat.zero_le _, rfl, rfl, HN.out, HCK.out, rfl, QC.out, Q.out, BW.out⟩
        case round =>
          obtain ⟨k, m, c3, A3, Y, hk, rfl, rfl, hm, hck, hgo, hcc, hq, hb⟩ := hrel
          have hm4 : m ≤ 1048576 := by have := (chkS_ok hck).2; omega
          have HM := Lib.hid hm
          have HCY := Lib.hid hck
          have HGO := Lib.hid hgo
          have HCC := Lib.hid hcc
          have Q3 := Lib.hid hq
          have BR := Lib.hid hb
          clear hm hck hgo hcc hq hb
          by_cases hlt : k < nr
          · have hkR : k < RU.length := by have := HNR.out; omega
            have hk0 : (0 : Int) ≤ (k : Int) := by omega
            have HDR := Lib.hid (mw_drop (l := RU) k hkR)
            obtain ⟨adr, eR, hbR, r0, r1, r2, r3, r4, r5, r6⟩ := (HRS.out.on BR.out) k hkR
            subst eR
            generalize hRN : RU[k].N = RN, hral : RU[k].al = ral, hRPA : RU[k].PA = RPA, hrpn : RU[k].pn = rpn, hrpc : RU[k].pc = rpc, hrkm : RU[k].km = rkm, hrlm : RU[k].lm = rlm, hrmo : RU[k].mo = rmo, hrwi : RU[k].wi = rwi at r0 r1 r2 r3 r4 r5 r6 HDR
            clear hRN hral hRPA hrpn hrpc hrkm hrlm hrmo hrwi
            obtain ⟨Z, er, hsp⟩ : ∃ Z er, spendS Y rmo rwi k acc now = (Z, er) := ⟨_, _, rfl⟩
            obtain ⟨mz, hmz⟩ : ∃ mz, Z.length = mz := ⟨_, rfl⟩
            have PS := Lib.hid (fun w hs => refSpend_k A3 m c3 Y HM.out hm4 RN ral RPA rpn rpc rkm rlm rmo rwi k acc now Z er mz hsp hmz w hs)
            cases hcon : BY.contains (k : Int) with
            | false =>
              have PCX := Lib.hid (PCI.out k)
              rw [hcon] at PCX
              have HGN := Lib.hid (show allGo BY acc now (k + 1) ((mw RU).drop (k + 1)) Y = allGo BY acc now 0 (mw RU) L by rw [← HGO.out, HDR.out, allGo_skip hcon])
              clear hcon hsp hmz
              go_wp2_with fail
              (with_reducible refine (PCX.out _ (HBS.out.on17 BR.out)).mono ?_)
              rintro e _ ⟨rfl, rfl⟩
              go_wp2_with fail
              go_roundw
              case rel => exact ⟨k + 1, m, c3, A3, Y, by omega, rfl, by go_num, HM.out, HCY.out, HGN.out, HCC.out, Q3.out, BR.out⟩
              case measure => simp [intOf]; omega
            | true =>
              have PCX := Lib.hid (PCI.out k)
              rw [hcon] at PCX
              by_cases he : er = 0
              rotate_left 1
              · have ge : (er != 0) = true := by simpa using he
                have HE := Lib.hid (show allS L (mw RU) BY acc now = ([], er) by rw [HALL.out, ← HGO.out, HDR.out, allGo_err hcon hsp he])
                clear hcon hsp hmz he
                go_wp2_with fail
                (with_reducible refine (PCX.out _ (HBS.out.on17 BR.out)).mono ?_)
                rintro e _ ⟨rfl, rfl⟩
                go_wp2_with fail
                (with_reducible refine (PS.out _ Q3.out).mono ?_)
                rintro e w31 ⟨A5, c5, rfl, hcc, hq, b⟩
                have B31 := Lib.hid (below_on BR.out b)
                replace Q3 := Lib.hid (Q3.out.on b)
                have Q5 := Lib.hid (hq)
                have Q5c := Lib.hid (hcc)
                clear b hq hcc
                go_wp2_with fail
                refine bodyPost_ret (v := .tuple #[.slice none 0 0, .int .i64 er]) (by simp [results, Try.results22, go_sem]) rfl ?_
                exact allE_no HE.out B31.out
              subst he
              have HGN := Lib.hid (show allGo BY acc now (k + 1) ((mw RU).drop (k + 1)) Z = allGo BY acc now 0 (mw RU) L by rw [← HGO.out, HDR.out, allGo_yes hcon hsp])
              have HCZ := Lib.hid (spend_ok hsp).2.1
              have HMZ := Lib.hid hmz
              clear hcon hsp hmz
              go_wp2_with fail
              (with_reducible refine (PCX.out _ (HBS.out.on17 BR.out)).mono ?_)
              rintro e _ ⟨rfl, rfl⟩
              go_wp2_with fail
              (with_reducible refine (PS.out _ Q3.out).mono ?_)
              rintro e w31 ⟨A5, c5, rfl, hcc, hq, b⟩
              have B31 := Lib.hid (below_on BR.out b)
              replace Q3 := Lib.hid (Q3.out.on b)
              have Q5 := Lib.hid (hq)
              have Q5c := Lib.hid (hcc)
              clear b hq hcc
              go_wp2_with fail
              go_roundw
              case rel => exact ⟨k + 1, mz, c5, A5, Z, by omega, rfl, by go_num, HMZ.out, HCZ.out, HGN.out, Q5c.out, Q5.out, B31.out⟩
              case measure => simp [intOf]; omega
          · obtain rfl : k = nr := by omega
            have HE := Lib.hid (show allS L (mw RU) BY acc now = (Y, 0) by rw [HALL.out, ← HGO.out, List.drop_eq_nil_of_le (by rw [mw_len, HNR.out]; exact Nat.le_refl _)]; rfl)
            go_wp2_with fail
            refine bodyPost_ret (v := .tuple #[.slice A3 m c3, .int .i64 0]) (by simp [results, Try.results22, go_sem]) rfl ?_
            exact allE_yes HE.out HM.out HCC.out Q3.out BR.out
end
end Go.Proofs.Ytnjmhijfaijopaa

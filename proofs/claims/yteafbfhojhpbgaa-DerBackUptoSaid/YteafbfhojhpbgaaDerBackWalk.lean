/- The walk of the law DerBack. -/
import Derived.Test.YteafbfhojhpbgaaDerX
import Derived.Test.YteafbfhojhpbgaaDerZf
namespace Go.Proofs.Yteafbfhojhpbgaa
open Go.ChangeShapes Go.WideShapes Go.ChangeAt Go.RowKit Gs
set_option linter.unusedVariables false

theorem nby (w : World) (o : Obj) : Below w.heap.size w (w.alloc o) := (Below.refl _ _).alloc (Nat.le_refl _) _
theorem lenB_bytes (n : Nat) : ∀ z ∈ lenB n, 0 ≤ z ∧ z < 256 := by
  intro z hz
  unfold lenB at hz
  by_cases h1 : n < 128
  · rw [if_pos h1] at hz; simp at hz; omega
  · rw [if_neg h1] at hz
    by_cases h2 : n < 256
    · rw [if_pos h2] at hz; simp at hz; rcases hz with rfl | rfl <;> omega
    · rw [if_neg h2] at hz; simp at hz; rcases hz with rfl | rfl | rfl <;> omega
theorem enc_bound : ∀ x : It, x.wf → ∀ z ∈ x.enc, 0 ≤ z ∧ z < 256 := it_ind fun x ih hwf z hz => by
  rw [wf_is] at hwf
  rw [enc_is] at hz
  rcases List.mem_cons.1 hz with rfl | hz
  · omega
  rcases List.mem_append.1 hz with hz | hz
  · exact lenB_bytes _ z hz
  rcases List.mem_append.1 hz with hz | hz
  · exact hwf.2.1 z hz
  have ha := wfs_all.1 hwf.2.2
  have go : ∀ l : List It, (∀ y ∈ l, ∀ z ∈ y.enc, 0 ≤ z ∧ z < 256) → ∀ z ∈ encs l, 0 ≤ z ∧ z < 256 := by
    intro l
    induction l with
    | nil => intro _ z hz; simp [encs] at hz
    | cons y r ihl =>
      intro h z hz
      rw [encs] at hz
      rcases List.mem_append.1 hz with hz | hz
      · exact h y (List.mem_cons_self ..) z hz
      · exact ihl (fun y' hy => h y' (List.mem_cons_of_mem _ hy)) z hz
  exact go x.l (fun y hy => ih y hy (ha y hy)) z hz
theorem enc_bytes {x : It} (hwf : x.wf) (hm : mayI 8 x = true) (hl : x.enc.length ≤ 8192) : ∀ z ∈ x.enc, 0 ≤ z ∧ z < 256 := enc_bound x hwf
/-- What was put, behind any bytes and ahead of others, is got. -/
theorem back_get {x : It} {h t : List Int} (hm : mayI 8 x = true) (hl : x.enc.length ≤ 8192) : getP (h ++ x.enc ++ t) (h.length : Int) = .ok x (h.length + x.enc.length) := by
  unfold getP
  rw [if_neg (by rw [List.length_append, List.length_append]; omega), Int.toNat_natCast]
  have e : (h ++ x.enc ++ t).drop h.length = x.enc ++ t := by
    rw [List.append_assoc, List.drop_left]
  rw [e, rawG_enc x ((may_iff 8 x).1 hm).1 hl t, getK_yes hm]

set_option maxRecDepth 100000 in
set_option maxHeartbeats 8000000 in
theorem back_walk7 (x : It) (hwf : x.wf) (hbig : x.wt ≤ 10000000) (Ab : Option Addr) (cb : Nat) (Al : Option Addr) (cl : Nat) (A1 : Option Addr) (c1 : Nat) (h : List Int) (A2 : Option Addr) (c2 : Nat) (t : List Int) (w : World)
    (hi : IR w w.heap.size x Ab cb Al cl) (hs1 : SI w w.heap.size .u8 A1 h) (hl1 : h.length ≤ c1) (hm1 : c1 ≤ maxLen) (hx1 : ∀ n ∈ h, (Lit.int .u8 n).wf = true) (hs2 : SI w w.heap.size .u8 A2 t) (hl2 : t.length ≤ c2) (hm2 : c2 ≤ maxLen) (hx2 : ∀ n ∈ t, (Lit.int .u8 n).wf = true) :
    Calls Try.prog 7 #[.agg #[.int .i64 x.tag, .slice Ab x.b.length cb, .slice Al x.l.length cl], .slice A1 h.length c1, .slice A2 t.length c2] w fun e w' => e = .returned (.bool true) ∧ Below w.heap.size w w' := by
  have D0 := Lib.hid (nby w (.cells #[.int .i64 x.tag, .slice Ab x.b.length cb, .slice Al x.l.length cl] 25))
  have K0 := Lib.hid (Blk.new w 25 #[.int .i64 x.tag, .slice Ab x.b.length cb, .slice Al x.l.length cl])
  have PF := Lib.hid (fun W (hh : IR W W.heap.size x Ab cb Al cl) => Few_any x (by omega) Ab cb Al cl W hh)
  have PP := Lib.hid (fun W (hh : IR W W.heap.size x Ab cb Al cl) => Put_any x hwf (by omega) Ab cb Al cl W hh)
  have PS := Lib.hid (fun Ab2 cb2 Al2 cl2 W (hh : IR W W.heap.size x Ab cb Al cl) (hh' : IR W W.heap.size x Ab2 cb2 Al2 cl2) => same_any x hwf x hwf Ab cb Al cl Ab2 cb2 Al2 cl2 W hh hh')
  rw [same_self x] at PS
  have HI := Lib.hid hi
  have HS1 := Lib.hid hs1
  have HS2 := Lib.hid hs2
  by_cases hfew : x.wt ≤ 9000 ∧ h.length ≤ 200 ∧ t.length ≤ 200
  rotate_left 1
  · have hc : (decide (x.wt ≤ 9000) = false) ∨ (decide (x.wt ≤ 9000) = true ∧ decide ((200 : Int) < (h.length : Int)) = true) ∨ (decide (x.wt ≤ 9000) = true ∧ decide ((200 : Int) < (h.length : Int)) = false ∧ decide ((200 : Int) < (t.length : Int)) = true) := by
      by_cases g1 : x.wt ≤ 9000
      · by_cases g2 : h.length ≤ 200
        · exact .inr (.inr ⟨decide_eq_true g1, decide_eq_false (by omega), decide_eq_true (by omega)⟩)
        · exact .inr (.inl ⟨decide_eq_true g1, decide_eq_true (by omega)⟩)
      · exact .inl (decide_eq_false g1)
    clear hfew hi hs1 hl1 hm1 hx1 hs2 hl2 hm2 hx2 PP PS
    have k0 := K0.out.cell 0
    have k1 := K0.out.cell 1
    have k2 := K0.out.cell 2
    generalize h.length = nh at *
    generalize t.length = nt at *
    rcases hc with g1 | ⟨g1, g2⟩ | ⟨g1, g2, g3⟩
    all_goals (
      rw [g1] at PF
      clear g1
      generalize x.b.length = m1 at *
      generalize x.l.length = m2 at *
      generalize x.tag = tg at *
      go_enter Try.func7, Try.ntmps7
      go_wp2_with fail
      refine (live7 _).mono ?_; rintro _ w1 ⟨rfl, bb⟩
      have B1 := Lib.hid (below_on D0.out bb)
      have K1 := Lib.hid (K0.out.below bb K0.out.lt)
      clear bb k0 k1 k2
      have k0 := K1.out.cell 0
      have k1 := K1.out.cell 1
      have k2 := K1.out.cell 2
      go_wp2_with fail
      refine (PF.out _ (HI.out.on B1.out)).mono ?_; rintro _ w2 ⟨rfl, bb⟩
      have B2 := Lib.hid (below_on B1.out bb)
      clear bb k0 k1 k2
      go_wp2_with fail
      go_ret
      exact ⟨rfl, B2.out⟩)
  obtain ⟨g1, g2, g3⟩ := hfew
  have d2 : decide ((200 : Int) < (h.length : Int)) = false := decide_eq_false (by omega)
  have d3 : decide ((200 : Int) < (t.length : Int)) = false := decide_eq_false (by omega)
  rw [decide_eq_true g1] at PF
  have hb1 : ∀ z ∈ h, 0 ≤ z ∧ z < 256 := fun z hz => u8_wf (hx1 z hz)
  have hb2 : ∀ z ∈ t, 0 ≤ z ∧ z < 256 := fun z hz => u8_wf (hx2 z hz)
  by_cases hput : mayI 8 x = true ∧ x.enc.length ≤ 8192
  rotate_left 1
  · have hE : putE x ≠ 0 ∧ putB x = [] := by
      unfold putE putB
      by_cases hm : mayI 8 x = true
      · have h8 : 8192 < x.enc.length := Nat.lt_of_not_le (fun hle => hput ⟨hm, hle⟩)
        rw [if_pos hm, if_pos hm, if_pos h8, if_pos h8]; exact ⟨by omega, rfl⟩
      · rw [if_neg hm, if_neg hm]; exact ⟨by omega, rfl⟩
    rw [hE.2] at PP
    obtain ⟨pe, hpe⟩ : ∃ pe, putE x = pe := ⟨_, rfl⟩
    have he0 : (pe != 0) = true := by have := hE.1; rw [hpe] at this; simpa using this
    rw [hpe] at PP
    clear hpe hE hput hi hs1 hl1 hm1 hx1 hs2 hl2 hm2 hx2 hb1 hb2 PS g1 g2 g3
    generalize h.length = nh at *
    generalize t.length = nt at *
    generalize x.b.length = m1 at *
    generalize x.l.length = m2 at *
    generalize x.tag = tg at *
    go_enter Try.func7, Try.ntmps7
    go_wp2_with fail
    refine (live7 _).mono ?_; rintro _ w1 ⟨rfl, bb⟩
    have B1 := Lib.hid (below_on D0.out bb)
    have K1 := Lib.hid (K0.out.below bb K0.out.lt)
    clear bb
    have k0 := K1.out.cell 0
    have k1 := K1.out.cell 1
    have k2 := K1.out.cell 2
    go_wp2_with fail
    refine (PF.out _ (HI.out.on B1.out)).mono ?_; rintro _ w2 ⟨rfl, bb⟩
    have B2 := Lib.hid (below_on B1.out bb)
    have K2 := Lib.hid (K1.out.below bb K1.out.lt)
    clear bb k0 k1 k2
    have k0 := K2.out.cell 0
    have k1 := K2.out.cell 1
    have k2 := K2.out.cell 2
    go_wp2_with fail
    refine (PP.out _ (HI.out.on B2.out)).mono ?_; rintro _ w3 ⟨⟨v, rfl, ho⟩, bb⟩
    obtain ⟨Av, cv, rfl, _, _, _, _⟩ := own_sliceB ho
    have B3 := Lib.hid (below_on B2.out bb)
    clear bb ho k0 k1 k2
    go_wp2_with fail
    go_ret
    exact ⟨rfl, B3.out⟩
  obtain ⟨hmay, hel⟩ := hput
  have e1 : putE x = 0 := by unfold putE; rw [if_pos hmay, if_neg (by omega)]
  have e2 : putB x = x.enc := by unfold putB; rw [if_pos hmay, if_neg (by omega)]
  rw [e1, e2] at PP
  have henb := enc_bytes hwf hmay hel
  have hall : ∀ z ∈ h ++ x.enc ++ t, 0 ≤ z ∧ z < 256 := fun z hz => by
    rcases List.mem_append.1 hz with hz | hz
    · rcases List.mem_append.1 hz with hz | hz
      · exact hb1 z hz
      · exact henb z hz
    · exact hb2 z hz
  have hlen : (h ++ x.enc ++ t).length = h.length + x.enc.length + t.length := by rw [List.length_append, List.length_append]
  have PG := Lib.hid (fun (A : Option Addr) (c : Nat) (W : World) (hc : (h ++ x.enc ++ t).length ≤ c) (hm : c ≤ maxLen) (hh : SI W W.heap.size .u8 A (h ++ x.enc ++ t)) => Get_any (h ++ x.enc ++ t) hall (by rw [hlen]; omega) (h.length : Int) A c W hc hm hh)
  rw [back_get hmay hel] at PG
  have HEN := Lib.hid hlen
  obtain ⟨enc, henc⟩ : ∃ enc, x.enc = enc := ⟨_, rfl⟩
  rw [henc] at PG PP HEN hel
  obtain ⟨ne, hne⟩ : ∃ ne, enc.length = ne := ⟨_, rfl⟩
  have HNE := Lib.hid hne
  rw [hne] at PG HEN hel
  obtain ⟨nh, hnh⟩ : ∃ nh, h.length = nh := ⟨_, rfl⟩
  have HNH := Lib.hid hnh
  rw [hnh] at PG HEN d2 g2 ⊢
  obtain ⟨nt, hnt⟩ : ∃ nt, t.length = nt := ⟨_, rfl⟩
  have HNT := Lib.hid hnt
  rw [hnt] at HEN d3 g3 ⊢
  clear hi hs1 hl1 hm1 hx1 hs2 hl2 hm2 hx2 hb1 hb2 hmay e1 e2 henb hall hlen henc hne hnh hnt hwf hbig g1
  obtain ⟨m1, hm1⟩ : ∃ m1, x.b.length = m1 := ⟨_, rfl⟩
  obtain ⟨m2, hm2⟩ : ∃ m2, x.l.length = m2 := ⟨_, rfl⟩
  obtain ⟨tg, htg⟩ : ∃ tg, x.tag = tg := ⟨_, rfl⟩
  have HM := Lib.hid (And.intro hm1 (And.intro hm2 htg))
  rw [hm1, hm2, htg] at K0 D0 PF PP PS
  rw [hm1, hm2, htg]
  clear hm1 hm2 htg
  go_enter Try.func7, Try.ntmps7
  go_wp2_with fail
  refine (live7 _).mono ?_; rintro _ w1 ⟨rfl, bb⟩
  have B1 := Lib.hid (below_on D0.out bb)
  have K1 := Lib.hid (K0.out.below bb K0.out.lt)
  clear bb
  have k0 := K1.out.cell 0
  have k1 := K1.out.cell 1
  have k2 := K1.out.cell 2
  go_wp2_with fail
  refine (PF.out _ (HI.out.on B1.out)).mono ?_; rintro _ w2 ⟨rfl, bb⟩
  have B2 := Lib.hid (below_on B1.out bb)
  have K2 := Lib.hid (K1.out.below bb K1.out.lt)
  clear bb k0 k1 k2
  have k0 := K2.out.cell 0
  have k1 := K2.out.cell 1
  have k2 := K2.out.cell 2
  go_wp2_with fail
  refine (PP.out _ (HI.out.on B2.out)).mono ?_; rintro _ w4 ⟨⟨v, rfl, ho⟩, bb⟩
  obtain ⟨Av, cv, rfl, _, _, hsv, _⟩ := own_sliceB ho
  have B4 := Lib.hid (below_on B2.out bb)
  have K4 := Lib.hid (K2.out.below bb K2.out.lt)
  have SV := Lib.hid hsv
  rw [HNE.out]
  have OL := Lib.hid (own_litB w4 [] (B := w4.heap.size) (g := w4.heap.size) (Nat.le_refl _) rfl (by simp))
  have b5 := nby w4 (.cells (([] : List Int).map (Value.int .u8)).toArray 5)
  have B5 := Lib.hid b5
  have S1 := Lib.hid ((HS1.out.on B4.out).on b5)
  have hL1 : ([] : List Int).length + nh ≤ 1099511627776 := by simp; omega
  have hZ5 := b5.size
  clear bb ho hsv k0 k1 k2 b5
  rw [HEN.out] at PG
  go_wp2_with (at_builtin; first
    | (refine wpList_append_b (by rfl) _ _ (by rfl) w4.heap.size _ [] (by rfl) OL.out _ A1 nh c1 h HNH.out (by rfl) S1.out hL1 hZ5 ?_; intro v6 w6 o6 b6 g6 n6; rw [List.nil_append] at o6; have B6 := Lib.hid (B5.out.trans b6); have O6 := Lib.hid o6; have S6 := Lib.hid (SV.out.on B6.out); have hL6 : h.length + ne ≤ 1099511627776 := (by rw [HNH.out]; omega); have hZ6 := B6.out.size; clear o6 g6 n6 b6)
    | (refine wpList_append_b (by rfl) _ _ (by rfl) w4.heap.size _ h (by rfl) O6.out _ Av ne cv enc HNE.out (by rfl) S6.out hL6 hZ6 ?_; intro v7 w7 o7 b7 g7 n7; have B7 := Lib.hid (B6.out.trans b7); have O7 := Lib.hid o7; have S7 := Lib.hid ((HS2.out.on B4.out).on B7.out); have hL7 : (h ++ enc).length + nt ≤ 1099511627776 := (by rw [List.length_append, HNH.out, HNE.out]; omega); have hZ7 := B7.out.size; clear o7 g7 n7 b7)
    | (refine wpList_append_b (by rfl) _ _ (by rfl) w4.heap.size _ (h ++ enc) (by rfl) O7.out _ A2 nt c2 t HNT.out (by rfl) S7.out hL7 hZ7 ?_; intro v8 w8 o8 b8 g8 n8; have B8 := Lib.hid (B7.out.trans b8); obtain ⟨A8, c8, e8, q81, q82, q83, _⟩ := own_sliceB o8; rw [HEN.out] at e8 q81; subst e8; have P8 := Lib.hid (PG.out A8 c8 w8 q81 q82 q83); have hZ8 := B8.out.size; clear o8 g8 n8 b8 q81 q82 q83))
  refine P8.out.mono ?_; rintro _ w9 ⟨⟨A3, c3, A4, c4, rfl, hit⟩, bb⟩
  have hir := hit.more (S' := (· < w9.heap.size)) (fun g hg => hg.2)
  obtain ⟨Ab2, cb2, Al2, cl2, e1, e2, hi2⟩ := IR.of hir
  injection e1 with e1 _ e3
  injection e2 with e2 _ e4
  subst e1; subst e3; subst e2; subst e4
  rw [HM.out.1, HM.out.2.1, HM.out.2.2]
  have b9 := nby w9 (.cells #[.int .i64 tg, .slice A3 m1 c3, .slice A4 m2 c4] 25)
  have b49 := below_on B8.out bb
  have b490 := below_on b49 b9
  have K9 := Lib.hid (K4.out.below b490 K4.out.lt)
  have X9 := Lib.hid (Blk.new w9 25 #[.int .i64 tg, .slice A3 m1 c3, .slice A4 m2 c4])
  have B9 := Lib.hid (below_on B4.out b490)
  have I9 := Lib.hid ((HI.out.on B4.out).on b490)
  have J9 := Lib.hid (hi2.on b9)
  have P9 := Lib.hid (PS.out A3 c3 A4 c4 _ I9.out J9.out)
  clear bb b9 b49 b490 hit hir hi2
  have k0 := K9.out.cell 0
  have k1 := K9.out.cell 1
  have k2 := K9.out.cell 2
  have x0 := X9.out.cell 0
  have x1 := X9.out.cell 1
  have x2 := X9.out.cell 2
  go_wp2_with fail
  refine P9.out.mono ?_; rintro _ w10 ⟨rfl, bb⟩
  have B10 := Lib.hid (below_on B9.out bb)
  clear bb x0 x1 x2 k0 k1 k2
  go_wp2_with fail
  go_ret
  exact ⟨by simp, B10.out⟩
end Go.Proofs.Yteafbfhojhpbgaa

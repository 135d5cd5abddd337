/- What an item is of: the program's own. -/
import Derived.Test.YteafbfhojhpbgaaDerN
namespace Go.Proofs.Yteafbfhojhpbgaa
open Go.ChangeShapes Go.WideShapes Go.ChangeAt Go.RowKit Gs
set_option linter.unusedVariables false

/-- Why an item is not of that tag. -/
def asE (t : Int) (x : It) : Int := if x.tag = t then (if mayI 8 x = true then 0 else 71) else 72
theorem asE_tag {t : Int} {x : It} (h : x.tag ≠ t) : asE t x = 72 := if_neg h
theorem asE_bad {t : Int} {x : It} (h : x.tag = t) (g : mayI 8 x = false) : asE t x = 71 := by unfold asE; rw [if_pos h, g]; rfl
theorem asE_ok {t : Int} {x : It} (h : x.tag = t) (g : mayI 8 x = true) : asE t x = 0 := by unfold asE; rw [if_pos h, if_pos g]
theorem asE_zero {t : Int} {x : It} (h : asE t x = 0) : x.tag = t ∧ mayI 8 x = true := by
  by_cases a : x.tag = t
  · cases b : mayI 8 x with
    | true => exact ⟨a, rfl⟩
    | false => rw [asE_bad a b] at h; omega
  · rw [asE_tag a] at h; omega
theorem may_okB {x : It} (h : mayI 8 x = true) : okB x.tag x.b = true := by
  rw [mayI, Bool.and_eq_true] at h
  exact h.1
theorem may_int {x : It} (t : x.tag = 2) (h : mayI 8 x = true) : 1 ≤ x.b.length ∧ x.b.length ≤ 8 := by
  have := may_okB h
  rw [t, okB_2] at this
  unfold intB at this
  rw [Bool.and_eq_true] at this
  exact of_decide_eq_true this.1
theorem may_boolB {x : It} (t : x.tag = 1) (h : mayI 8 x = true) : x.b = [0] ∨ x.b = [255] := by
  have := may_okB h
  rw [t, okB_1] at this
  unfold boolB at this
  simpa using this

set_option maxHeartbeats 2000000 in
theorem asText1_any (x : It) (Ab : Option Addr) (cb : Nat) (vl : Value) (w : World) (hs : SI w w.heap.size .u8 Ab x.b) :
    Calls Try.prog 59 #[.agg #[.int .i64 x.tag, .slice Ab x.b.length cb, vl]] w fun e w' => e = .returned (.string (strOfNums x.b)) ∧ Below w.heap.size w w' := by
  have D0 := Lib.hid ((Below.refl w.heap.size w).alloc (Nat.le_refl _) (.cells #[.int .i64 x.tag, .slice Ab x.b.length cb, vl] 25))
  have cv := conv_si (c := cb) rfl (hs.on D0.out)
  clear hs
  generalize strOfNums x.b = s at *
  generalize x.b.length = m at *
  go_enter Try.func59, Try.ntmps59
  go_wp2_with fail
  go_ret
  exact ⟨rfl, D0.out⟩
set_option maxHeartbeats 2000000 in
theorem asOct1_any (x : It) (hl : x.b.length ≤ 1000000000) (Ab : Option Addr) (cb : Nat) (vl : Value) (w : World) (hs : SI w w.heap.size .u8 Ab x.b) :
    Calls Try.prog 61 #[.agg #[.int .i64 x.tag, .slice Ab x.b.length cb, vl]] w fun e w' => (∃ v, e = .returned v ∧ OwnB w' w.heap.size v x.b) ∧ Below w.heap.size w w' := by
  have D0 := Lib.hid ((Below.refl w.heap.size w).alloc (Nat.le_refl _) (.cells #[.int .i64 x.tag, .slice Ab x.b.length cb, vl] 25))
  have P := Lib.hid (fun W (h : SI W W.heap.size .u8 Ab x.b) => clone_any Ab x.b.length cb x.b rfl hl W h)
  have HS := Lib.hid hs
  clear hs
  generalize x.b.length = m at *
  go_enter Try.func61, Try.ntmps61
  go_wp2_with fail
  refine (P.out _ (HS.out.on D0.out)).mono ?_; rintro _ w2 ⟨⟨v, rfl, ho⟩, b⟩
  have HO := Lib.hid (own_less ho D0.out.size)
  have B2 := Lib.hid (below_on D0.out b)
  clear ho b
  go_wp2_with fail
  go_ret
  exact ⟨⟨_, rfl, HO.out⟩, B2.out⟩
set_option maxHeartbeats 2000000 in
theorem asSeq1_any (x : It) (hw : x.wt ≤ 100000000) (vb : Value) (Al : Option Addr) (cl : Nat) (w : World) (hs : IS w w.heap.size Al x.l) :
    Calls Try.prog 65 #[.agg #[.int .i64 x.tag, vb, .slice Al x.l.length cl]] w fun e w' => (∃ v, e = .returned v ∧ OwnIt w' w.heap.size w.heap.size v x.l) ∧ Below w.heap.size w w' := by
  have D0 := Lib.hid ((Below.refl w.heap.size w).alloc (Nat.le_refl _) (.cells #[.int .i64 x.tag, vb, .slice Al x.l.length cl] 25))
  have P := Lib.hid (copies_any (wts x.l) x.l (Nat.le_refl _) (by have := wt_is x; omega))
  unfold CopiesOf at P
  have HS := Lib.hid hs
  clear hs
  generalize x.l.length = m at *
  go_enter Try.func65, Try.ntmps65
  go_wp2_with fail
  refine (P.out _ _ _ (HS.out.on D0.out)).mono ?_; rintro _ w2 ⟨⟨v, rfl, ho⟩, b⟩
  have HO := Lib.hid (ho.less D0.out.size D0.out.size)
  have B2 := Lib.hid (below_on D0.out b)
  clear ho b
  go_wp2_with fail
  go_ret
  exact ⟨⟨_, rfl, HO.out⟩, B2.out⟩
set_option maxHeartbeats 2000000 in
theorem asBool1_any (x : It) (v : Bool) (hb : x.b = [if v then 255 else 0]) (Ab : Option Addr) (cb : Nat) (vl : Value) (w : World) (hs : SI w w.heap.size .u8 Ab x.b) :
    Calls Try.prog 63 #[.agg #[.int .i64 x.tag, .slice Ab x.b.length cb, vl]] w fun e w' => e = .returned (.bool v) ∧ Below w.heap.size w w' := by
  rw [hb] at hs ⊢
  obtain ⟨ad, rfl, had, c0⟩ := si_zero hs
  have D0 := Lib.hid ((Below.refl w.heap.size w).alloc (Nat.le_refl _) (.cells #[.int .i64 x.tag, .slice (some ad) 1 cb, vl] 25))
  have c0' := (World.cell?_alloc_lt w (.cells #[.int .i64 x.tag, .slice (some ad) 1 cb, vl] 25) ad had).trans c0
  clear hs hb
  cases v with
  | true =>
    have c1 : (w.alloc (.cells #[.int .i64 x.tag, .slice (some ad) 1 cb, vl] 25)).cell? ad = some (.int .u8 255) := c0'
    clear c0 c0'
    go_enter Try.func63, Try.ntmps63
    go_wp2_with fail
    go_ret
    exact ⟨rfl, D0.out⟩
  | false =>
    have c1 : (w.alloc (.cells #[.int .i64 x.tag, .slice (some ad) 1 cb, vl] 25)).cell? ad = some (.int .u8 0) := c0'
    clear c0 c0'
    go_enter Try.func63, Try.ntmps63
    go_wp2_with fail
    go_ret
    exact ⟨rfl, D0.out⟩

set_option maxRecDepth 100000 in
set_option maxHeartbeats 4000000 in
theorem asInt_any (x : It) (hwf : x.wf) (hx : x.wt ≤ 100000000) (Ab : Option Addr) (cb : Nat) (Al : Option Addr) (cl : Nat) (w : World) (hi : IR w w.heap.size x Ab cb Al cl) :
    Calls Try.prog 55 #[.agg #[.int .i64 x.tag, .slice Ab x.b.length cb, .slice Al x.l.length cl], .int .i64 2, .func (.func 56) #[] #[]] w fun e w' => e = .returned (.tuple #[.int .i64 (if asE 2 x = 0 then valI x.b else 0), .int .i64 (asE 2 x)]) ∧ Below w.heap.size w w' := by
  have D0 := Lib.hid ((Below.refl w.heap.size w).alloc (Nat.le_refl _) (.cells #[.int .i64 x.tag, .slice Ab x.b.length cb, .slice Al x.l.length cl] 25))
  have K0 := Lib.hid (Blk.new w 25 #[.int .i64 x.tag, .slice Ab x.b.length cb, .slice Al x.l.length cl])
  have HI := Lib.hid hi
  have PM := Lib.hid (fun W (h : IR W W.heap.size x Ab cb Al cl) => mayBe_any 8 (Nat.le_refl _) x hwf Ab cb Al cl W h)
  by_cases ht : x.tag = 2
  · cases hm : mayI 8 x with
    | true =>
      have PT := Lib.hid (fun W (h : IR W W.heap.size x Ab cb Al cl) => numberOf_any x (wf_b hwf) (may_int ht hm).1 (may_int ht hm).2 Ab cb (.slice Al x.l.length cl) W h.bi)
      rw [asE_ok ht hm]
      simp only [if_true]
      rw [hm] at PM
      have q : (x.tag == 2) = true := by simpa using ht
      clear hi hm
      rw [ht] at q PM PT D0 K0 ⊢
      clear ht q
      generalize x.b.length = m at *
      generalize x.l.length = n at *
      go_enter Try.func55, Try.ntmps55
      go_wp2_with fail
      refine (PM.out _ (HI.out.on D0.out)).mono ?_; rintro _ w2 ⟨rfl, b⟩
      have B2 := Lib.hid (below_on D0.out b)
      have K2 := Lib.hid (K0.out.below b K0.out.lt)
      clear b
      have k0 := K2.out.cell 0
      have k1 := K2.out.cell 1
      have k2 := K2.out.cell 2
      go_wp2_with fail
      refine (PT.out _ (HI.out.on B2.out)).mono ?_; rintro _ w3 ⟨rfl, b⟩
      have B3 := Lib.hid (below_on B2.out b)
      clear b k0 k1 k2
      go_wp2_with fail
      go_ret2
      exact ⟨rfl, B3.out⟩
    | false =>
      rw [asE_bad ht hm]
      simp only [show ¬ ((71 : Int) = 0) by omega, if_false]
      rw [hm] at PM
      clear hi hm
      rw [ht] at PM D0 K0 ⊢
      clear ht
      generalize x.b.length = m at *
      generalize x.l.length = n at *
      go_enter Try.func55, Try.ntmps55
      go_wp2_with fail
      refine (PM.out _ (HI.out.on D0.out)).mono ?_; rintro _ w2 ⟨rfl, b⟩
      have B2 := Lib.hid (below_on D0.out b)
      clear b
      go_wp2_with fail
      go_ret2
      exact ⟨rfl, B2.out⟩
  · rw [asE_tag ht]
    simp only [show ¬ ((72 : Int) = 0) by omega, if_false]
    have q : (x.tag == 2) = false := by simpa using ht
    clear hi ht
    generalize x.b.length = m at *
    generalize x.l.length = n at *
    go_enter Try.func55, Try.ntmps55
    go_wp2_with fail
    go_ret2
    exact ⟨rfl, D0.out⟩
set_option maxRecDepth 100000 in
set_option maxHeartbeats 4000000 in
theorem AsInt_any (x : It) (hwf : x.wf) (hx : x.wt ≤ 100000000) (Ab : Option Addr) (cb : Nat) (Al : Option Addr) (cl : Nat) (w : World) (hi : IR w w.heap.size x Ab cb Al cl) :
    Calls Try.prog 31 #[.agg #[.int .i64 x.tag, .slice Ab x.b.length cb, .slice Al x.l.length cl]] w fun e w' => e = .returned (.tuple #[.int .i64 (if asE 2 x = 0 then valI x.b else 0), .int .i64 (asE 2 x)]) ∧ Below w.heap.size w w' := by
  have D0 := Lib.hid ((Below.refl w.heap.size w).alloc (Nat.le_refl _) (.cells #[.int .i64 x.tag, .slice Ab x.b.length cb, .slice Al x.l.length cl] 25))
  have K0 := Lib.hid (Blk.new w 25 #[.int .i64 x.tag, .slice Ab x.b.length cb, .slice Al x.l.length cl])
  have HI := Lib.hid hi
  have P := Lib.hid (fun W (h : IR W W.heap.size x Ab cb Al cl) => asInt_any x hwf hx Ab cb Al cl W h)
  clear hi
  generalize (if asE 2 x = 0 then valI x.b else 0) = z at *
  generalize asE 2 x = e1 at *
  generalize x.b.length = m at *
  generalize x.l.length = n at *
  go_enter Try.func31, Try.ntmps31
  go_wp2_with fail
  refine (P.out _ (HI.out.on D0.out)).mono ?_; rintro _ w2 ⟨rfl, b⟩
  have B2 := Lib.hid (below_on D0.out b)
  clear b
  go_wp2_with fail
  go_ret2
  exact ⟨rfl, B2.out⟩
set_option maxRecDepth 100000 in
set_option maxHeartbeats 4000000 in
theorem asText_any (x : It) (hwf : x.wf) (hx : x.wt ≤ 100000000) (Ab : Option Addr) (cb : Nat) (Al : Option Addr) (cl : Nat) (w : World) (hi : IR w w.heap.size x Ab cb Al cl) :
    Calls Try.prog 58 #[.agg #[.int .i64 x.tag, .slice Ab x.b.length cb, .slice Al x.l.length cl], .int .i64 12, .func (.func 59) #[] #[]] w fun e w' => e = .returned (.tuple #[.string (if asE 12 x = 0 then strOfNums x.b else ByteArray.empty), .int .i64 (asE 12 x)]) ∧ Below w.heap.size w w' := by
  have D0 := Lib.hid ((Below.refl w.heap.size w).alloc (Nat.le_refl _) (.cells #[.int .i64 x.tag, .slice Ab x.b.length cb, .slice Al x.l.length cl] 25))
  have K0 := Lib.hid (Blk.new w 25 #[.int .i64 x.tag, .slice Ab x.b.length cb, .slice Al x.l.length cl])
  have HI := Lib.hid hi
  have PM := Lib.hid (fun W (h : IR W W.heap.size x Ab cb Al cl) => mayBe_any 8 (Nat.le_refl _) x hwf Ab cb Al cl W h)
  by_cases ht : x.tag = 12
  · cases hm : mayI 8 x with
    | true =>
      have PT := Lib.hid (fun W (h : IR W W.heap.size x Ab cb Al cl) => asText1_any x Ab cb (.slice Al x.l.length cl) W h.bi)
      rw [asE_ok ht hm]
      simp only [if_true]
      rw [hm] at PM
      have q : (x.tag == 12) = true := by simpa using ht
      clear hi hm
      rw [ht] at q PM PT D0 K0 ⊢
      clear ht q
      generalize x.b.length = m at *
      generalize x.l.length = n at *
      go_enter Try.func58, Try.ntmps58
      go_wp2_with fail
      refine (PM.out _ (HI.out.on D0.out)).mono ?_; rintro _ w2 ⟨rfl, b⟩
      have B2 := Lib.hid (below_on D0.out b)
      have K2 := Lib.hid (K0.out.below b K0.out.lt)
      clear b
      have k0 := K2.out.cell 0
      have k1 := K2.out.cell 1
      have k2 := K2.out.cell 2
      go_wp2_with fail
      refine (PT.out _ (HI.out.on B2.out)).mono ?_; rintro _ w3 ⟨rfl, b⟩
      have B3 := Lib.hid (below_on B2.out b)
      clear b k0 k1 k2
      go_wp2_with fail
      go_ret2
      exact ⟨rfl, B3.out⟩
    | false =>
      rw [asE_bad ht hm]
      simp only [show ¬ ((71 : Int) = 0) by omega, if_false]
      rw [hm] at PM
      clear hi hm
      rw [ht] at PM D0 K0 ⊢
      clear ht
      generalize x.b.length = m at *
      generalize x.l.length = n at *
      go_enter Try.func58, Try.ntmps58
      go_wp2_with fail
      refine (PM.out _ (HI.out.on D0.out)).mono ?_; rintro _ w2 ⟨rfl, b⟩
      have B2 := Lib.hid (below_on D0.out b)
      clear b
      go_wp2_with fail
      go_ret2
      exact ⟨rfl, B2.out⟩
  · rw [asE_tag ht]
    simp only [show ¬ ((72 : Int) = 0) by omega, if_false]
    have q : (x.tag == 12) = false := by simpa using ht
    clear hi ht
    generalize x.b.length = m at *
    generalize x.l.length = n at *
    go_enter Try.func58, Try.ntmps58
    go_wp2_with fail
    go_ret2
    exact ⟨rfl, D0.out⟩
set_option maxRecDepth 100000 in
set_option maxHeartbeats 4000000 in
theorem AsText_any (x : It) (hwf : x.wf) (hx : x.wt ≤ 100000000) (Ab : Option Addr) (cb : Nat) (Al : Option Addr) (cl : Nat) (w : World) (hi : IR w w.heap.size x Ab cb Al cl) :
    Calls Try.prog 33 #[.agg #[.int .i64 x.tag, .slice Ab x.b.length cb, .slice Al x.l.length cl]] w fun e w' => e = .returned (.tuple #[.string (if asE 12 x = 0 then strOfNums x.b else ByteArray.empty), .int .i64 (asE 12 x)]) ∧ Below w.heap.size w w' := by
  have D0 := Lib.hid ((Below.refl w.heap.size w).alloc (Nat.le_refl _) (.cells #[.int .i64 x.tag, .slice Ab x.b.length cb, .slice Al x.l.length cl] 25))
  have K0 := Lib.hid (Blk.new w 25 #[.int .i64 x.tag, .slice Ab x.b.length cb, .slice Al x.l.length cl])
  have HI := Lib.hid hi
  have P := Lib.hid (fun W (h : IR W W.heap.size x Ab cb Al cl) => asText_any x hwf hx Ab cb Al cl W h)
  clear hi
  generalize (if asE 12 x = 0 then strOfNums x.b else ByteArray.empty) = z at *
  generalize asE 12 x = e1 at *
  generalize x.b.length = m at *
  generalize x.l.length = n at *
  go_enter Try.func33, Try.ntmps33
  go_wp2_with fail
  refine (P.out _ (HI.out.on D0.out)).mono ?_; rintro _ w2 ⟨rfl, b⟩
  have B2 := Lib.hid (below_on D0.out b)
  clear b
  go_wp2_with fail
  go_ret2
  exact ⟨rfl, B2.out⟩
set_option maxRecDepth 100000 in
set_option maxHeartbeats 4000000 in
theorem asOct_any (x : It) (hwf : x.wf) (hx : x.wt ≤ 100000000) (Ab : Option Addr) (cb : Nat) (Al : Option Addr) (cl : Nat) (w : World) (hi : IR w w.heap.size x Ab cb Al cl) :
    Calls Try.prog 60 #[.agg #[.int .i64 x.tag, .slice Ab x.b.length cb, .slice Al x.l.length cl], .int .i64 4, .func (.func 61) #[] #[]] w fun e w' => (∃ v, e = .returned (.tuple #[v, .int .i64 (asE 4 x)]) ∧ OwnB w' w.heap.size v (if asE 4 x = 0 then x.b else [])) ∧ Below w.heap.size w w' := by
  have D0 := Lib.hid ((Below.refl w.heap.size w).alloc (Nat.le_refl _) (.cells #[.int .i64 x.tag, .slice Ab x.b.length cb, .slice Al x.l.length cl] 25))
  have K0 := Lib.hid (Blk.new w 25 #[.int .i64 x.tag, .slice Ab x.b.length cb, .slice Al x.l.length cl])
  have HI := Lib.hid hi
  have PM := Lib.hid (fun W (h : IR W W.heap.size x Ab cb Al cl) => mayBe_any 8 (Nat.le_refl _) x hwf Ab cb Al cl W h)
  by_cases ht : x.tag = 4
  · cases hm : mayI 8 x with
    | true =>
      have PT := Lib.hid (fun W (h : IR W W.heap.size x Ab cb Al cl) => asOct1_any x (by have := wt_is x; omega) Ab cb (.slice Al x.l.length cl) W h.bi)
      rw [asE_ok ht hm]
      simp only [if_true]
      rw [hm] at PM
      have q : (x.tag == 4) = true := by simpa using ht
      clear hi hm
      rw [ht] at q PM PT D0 K0 ⊢
      clear ht q
      generalize x.b.length = m at *
      generalize x.l.length = n at *
      go_enter Try.func60, Try.ntmps60
      go_wp2_with fail
      refine (PM.out _ (HI.out.on D0.out)).mono ?_; rintro _ w2 ⟨rfl, b⟩
      have B2 := Lib.hid (below_on D0.out b)
      have K2 := Lib.hid (K0.out.below b K0.out.lt)
      clear b
      have k0 := K2.out.cell 0
      have k1 := K2.out.cell 1
      have k2 := K2.out.cell 2
      go_wp2_with fail
      refine (PT.out _ (HI.out.on B2.out)).mono ?_; rintro _ w3 ⟨⟨v, rfl, ho⟩, b⟩
      have HO := Lib.hid (own_less ho B2.out.size)
      have B3 := Lib.hid (below_on B2.out b)
      clear b ho k0 k1 k2
      go_wp2_with fail
      go_ret2
      exact ⟨⟨_, rfl, HO.out⟩, B3.out⟩
    | false =>
      rw [asE_bad ht hm]
      simp only [show ¬ ((71 : Int) = 0) by omega, if_false]
      rw [hm] at PM
      clear hi hm
      rw [ht] at PM D0 K0 ⊢
      clear ht
      generalize x.b.length = m at *
      generalize x.l.length = n at *
      go_enter Try.func60, Try.ntmps60
      go_wp2_with fail
      refine (PM.out _ (HI.out.on D0.out)).mono ?_; rintro _ w2 ⟨rfl, b⟩
      have B2 := Lib.hid (below_on D0.out b)
      clear b
      go_wp2_with fail
      go_ret2
      exact ⟨⟨_, rfl, own_nilB _ _⟩, B2.out⟩
  · rw [asE_tag ht]
    simp only [show ¬ ((72 : Int) = 0) by omega, if_false]
    have q : (x.tag == 4) = false := by simpa using ht
    clear hi ht
    generalize x.b.length = m at *
    generalize x.l.length = n at *
    go_enter Try.func60, Try.ntmps60
    go_wp2_with fail
    go_ret2
    exact ⟨⟨_, rfl, own_nilB _ _⟩, D0.out⟩
set_option maxRecDepth 100000 in
set_option maxHeartbeats 4000000 in
theorem AsOct_any (x : It) (hwf : x.wf) (hx : x.wt ≤ 100000000) (Ab : Option Addr) (cb : Nat) (Al : Option Addr) (cl : Nat) (w : World) (hi : IR w w.heap.size x Ab cb Al cl) :
    Calls Try.prog 35 #[.agg #[.int .i64 x.tag, .slice Ab x.b.length cb, .slice Al x.l.length cl]] w fun e w' => (∃ v, e = .returned (.tuple #[v, .int .i64 (asE 4 x)]) ∧ OwnB w' w.heap.size v (if asE 4 x = 0 then x.b else [])) ∧ Below w.heap.size w w' := by
  have D0 := Lib.hid ((Below.refl w.heap.size w).alloc (Nat.le_refl _) (.cells #[.int .i64 x.tag, .slice Ab x.b.length cb, .slice Al x.l.length cl] 25))
  have K0 := Lib.hid (Blk.new w 25 #[.int .i64 x.tag, .slice Ab x.b.length cb, .slice Al x.l.length cl])
  have HI := Lib.hid hi
  have P := Lib.hid (fun W (h : IR W W.heap.size x Ab cb Al cl) => asOct_any x hwf hx Ab cb Al cl W h)
  clear hi
  generalize (if asE 4 x = 0 then x.b else []) = z at *
  generalize asE 4 x = e1 at *
  generalize x.b.length = m at *
  generalize x.l.length = n at *
  go_enter Try.func35, Try.ntmps35
  go_wp2_with fail
  refine (P.out _ (HI.out.on D0.out)).mono ?_; rintro _ w2 ⟨⟨v, rfl, ho⟩, b⟩
  have HO := Lib.hid (own_less ho D0.out.size)
  have B2 := Lib.hid (below_on D0.out b)
  clear b ho
  go_wp2_with fail
  go_ret2
  exact ⟨⟨_, rfl, HO.out⟩, B2.out⟩
set_option maxRecDepth 100000 in
set_option maxHeartbeats 4000000 in
theorem asBool_any (x : It) (hwf : x.wf) (hx : x.wt ≤ 100000000) (Ab : Option Addr) (cb : Nat) (Al : Option Addr) (cl : Nat) (w : World) (hi : IR w w.heap.size x Ab cb Al cl) :
    Calls Try.prog 62 #[.agg #[.int .i64 x.tag, .slice Ab x.b.length cb, .slice Al x.l.length cl], .int .i64 1, .func (.func 63) #[] #[]] w fun e w' => e = .returned (.tuple #[.bool (if asE 1 x = 0 then decide (x.b = [255]) else false), .int .i64 (asE 1 x)]) ∧ Below w.heap.size w w' := by
  have D0 := Lib.hid ((Below.refl w.heap.size w).alloc (Nat.le_refl _) (.cells #[.int .i64 x.tag, .slice Ab x.b.length cb, .slice Al x.l.length cl] 25))
  have K0 := Lib.hid (Blk.new w 25 #[.int .i64 x.tag, .slice Ab x.b.length cb, .slice Al x.l.length cl])
  have HI := Lib.hid hi
  have PM := Lib.hid (fun W (h : IR W W.heap.size x Ab cb Al cl) => mayBe_any 8 (Nat.le_refl _) x hwf Ab cb Al cl W h)
  by_cases ht : x.tag = 1
  · cases hm : mayI 8 x with
    | true =>
      have PT := Lib.hid (fun W (h : IR W W.heap.size x Ab cb Al cl) => asBool1_any x (decide (x.b = [255])) (by rcases may_boolB ht hm with e | e <;> rw [e] <;> rfl) Ab cb (.slice Al x.l.length cl) W h.bi)
      rw [asE_ok ht hm]
      simp only [if_true]
      rw [hm] at PM
      have q : (x.tag == 1) = true := by simpa using ht
      clear hi hm
      rw [ht] at q PM PT D0 K0 ⊢
      clear ht q
      generalize x.b.length = m at *
      generalize x.l.length = n at *
      go_enter Try.func62, Try.ntmps62
      go_wp2_with fail
      refine (PM.out _ (HI.out.on D0.out)).mono ?_; rintro _ w2 ⟨rfl, b⟩
      have B2 := Lib.hid (below_on D0.out b)
      have K2 := Lib.hid (K0.out.below b K0.out.lt)
      clear b
      have k0 := K2.out.cell 0
      have k1 := K2.out.cell 1
      have k2 := K2.out.cell 2
      go_wp2_with fail
      refine (PT.out _ (HI.out.on B2.out)).mono ?_; rintro _ w3 ⟨rfl, b⟩
      have B3 := Lib.hid (below_on B2.out b)
      clear b k0 k1 k2
      go_wp2_with fail
      go_ret2
      exact ⟨rfl, B3.out⟩
    | false =>
      rw [asE_bad ht hm]
      simp only [show ¬ ((71 : Int) = 0) by omega, if_false]
      rw [hm] at PM
      clear hi hm
      rw [ht] at PM D0 K0 ⊢
      clear ht
      generalize x.b.length = m at *
      generalize x.l.length = n at *
      go_enter Try.func62, Try.ntmps62
      go_wp2_with fail
      refine (PM.out _ (HI.out.on D0.out)).mono ?_; rintro _ w2 ⟨rfl, b⟩
      have B2 := Lib.hid (below_on D0.out b)
      clear b
      go_wp2_with fail
      go_ret2
      exact ⟨rfl, B2.out⟩
  · rw [asE_tag ht]
    simp only [show ¬ ((72 : Int) = 0) by omega, if_false]
    have q : (x.tag == 1) = false := by simpa using ht
    clear hi ht
    generalize x.b.length = m at *
    generalize x.l.length = n at *
    go_enter Try.func62, Try.ntmps62
    go_wp2_with fail
    go_ret2
    exact ⟨rfl, D0.out⟩
set_option maxRecDepth 100000 in
set_option maxHeartbeats 4000000 in
theorem AsBool_any (x : It) (hwf : x.wf) (hx : x.wt ≤ 100000000) (Ab : Option Addr) (cb : Nat) (Al : Option Addr) (cl : Nat) (w : World) (hi : IR w w.heap.size x Ab cb Al cl) :
    Calls Try.prog 37 #[.agg #[.int .i64 x.tag, .slice Ab x.b.length cb, .slice Al x.l.length cl]] w fun e w' => e = .returned (.tuple #[.bool (if asE 1 x = 0 then decide (x.b = [255]) else false), .int .i64 (asE 1 x)]) ∧ Below w.heap.size w w' := by
  have D0 := Lib.hid ((Below.refl w.heap.size w).alloc (Nat.le_refl _) (.cells #[.int .i64 x.tag, .slice Ab x.b.length cb, .slice Al x.l.length cl] 25))
  have K0 := Lib.hid (Blk.new w 25 #[.int .i64 x.tag, .slice Ab x.b.length cb, .slice Al x.l.length cl])
  have HI := Lib.hid hi
  have P := Lib.hid (fun W (h : IR W W.heap.size x Ab cb Al cl) => asBool_any x hwf hx Ab cb Al cl W h)
  clear hi
  generalize (if asE 1 x = 0 then decide (x.b = [255]) else false) = z at *
  generalize asE 1 x = e1 at *
  generalize x.b.length = m at *
  generalize x.l.length = n at *
  go_enter Try.func37, Try.ntmps37
  go_wp2_with fail
  refine (P.out _ (HI.out.on D0.out)).mono ?_; rintro _ w2 ⟨rfl, b⟩
  have B2 := Lib.hid (below_on D0.out b)
  clear b
  go_wp2_with fail
  go_ret2
  exact ⟨rfl, B2.out⟩
set_option maxRecDepth 100000 in
set_option maxHeartbeats 4000000 in
theorem asSeq_any (x : It) (hwf : x.wf) (hx : x.wt ≤ 100000000) (Ab : Option Addr) (cb : Nat) (Al : Option Addr) (cl : Nat) (w : World) (hi : IR w w.heap.size x Ab cb Al cl) :
    Calls Try.prog 64 #[.agg #[.int .i64 x.tag, .slice Ab x.b.length cb, .slice Al x.l.length cl], .int .i64 48, .func (.func 65) #[] #[]] w fun e w' => (∃ v, e = .returned (.tuple #[v, .int .i64 (asE 48 x)]) ∧ OwnIt w' w.heap.size w.heap.size v (if asE 48 x = 0 then x.l else [])) ∧ Below w.heap.size w w' := by
  have D0 := Lib.hid ((Below.refl w.heap.size w).alloc (Nat.le_refl _) (.cells #[.int .i64 x.tag, .slice Ab x.b.length cb, .slice Al x.l.length cl] 25))
  have K0 := Lib.hid (Blk.new w 25 #[.int .i64 x.tag, .slice Ab x.b.length cb, .slice Al x.l.length cl])
  have HI := Lib.hid hi
  have PM := Lib.hid (fun W (h : IR W W.heap.size x Ab cb Al cl) => mayBe_any 8 (Nat.le_refl _) x hwf Ab cb Al cl W h)
  by_cases ht : x.tag = 48
  · cases hm : mayI 8 x with
    | true =>
      have PT := Lib.hid (fun W (h : IR W W.heap.size x Ab cb Al cl) => asSeq1_any x hx (.slice Ab x.b.length cb) Al cl W h.li)
      rw [asE_ok ht hm]
      simp only [if_true]
      rw [hm] at PM
      have q : (x.tag == 48) = true := by simpa using ht
      clear hi hm
      rw [ht] at q PM PT D0 K0 ⊢
      clear ht q
      generalize x.b.length = m at *
      generalize x.l.length = n at *
      go_enter Try.func64, Try.ntmps64
      go_wp2_with fail
      refine (PM.out _ (HI.out.on D0.out)).mono ?_; rintro _ w2 ⟨rfl, b⟩
      have B2 := Lib.hid (below_on D0.out b)
      have K2 := Lib.hid (K0.out.below b K0.out.lt)
      clear b
      have k0 := K2.out.cell 0
      have k1 := K2.out.cell 1
      have k2 := K2.out.cell 2
      go_wp2_with fail
      refine (PT.out _ (HI.out.on B2.out)).mono ?_; rintro _ w3 ⟨⟨v, rfl, ho⟩, b⟩
      have HO := Lib.hid (ho.less B2.out.size B2.out.size)
      have B3 := Lib.hid (below_on B2.out b)
      clear b ho k0 k1 k2
      go_wp2_with fail
      go_ret2
      exact ⟨⟨_, rfl, HO.out⟩, B3.out⟩
    | false =>
      rw [asE_bad ht hm]
      simp only [show ¬ ((71 : Int) = 0) by omega, if_false]
      rw [hm] at PM
      clear hi hm
      rw [ht] at PM D0 K0 ⊢
      clear ht
      generalize x.b.length = m at *
      generalize x.l.length = n at *
      go_enter Try.func64, Try.ntmps64
      go_wp2_with fail
      refine (PM.out _ (HI.out.on D0.out)).mono ?_; rintro _ w2 ⟨rfl, b⟩
      have B2 := Lib.hid (below_on D0.out b)
      clear b
      go_wp2_with fail
      go_ret2
      exact ⟨⟨_, rfl, OwnIt.nil _ _ _⟩, B2.out⟩
  · rw [asE_tag ht]
    simp only [show ¬ ((72 : Int) = 0) by omega, if_false]
    have q : (x.tag == 48) = false := by simpa using ht
    clear hi ht
    generalize x.b.length = m at *
    generalize x.l.length = n at *
    go_enter Try.func64, Try.ntmps64
    go_wp2_with fail
    go_ret2
    exact ⟨⟨_, rfl, OwnIt.nil _ _ _⟩, D0.out⟩
set_option maxRecDepth 100000 in
set_option maxHeartbeats 4000000 in
theorem AsSeq_any (x : It) (hwf : x.wf) (hx : x.wt ≤ 100000000) (Ab : Option Addr) (cb : Nat) (Al : Option Addr) (cl : Nat) (w : World) (hi : IR w w.heap.size x Ab cb Al cl) :
    Calls Try.prog 39 #[.agg #[.int .i64 x.tag, .slice Ab x.b.length cb, .slice Al x.l.length cl]] w fun e w' => (∃ v, e = .returned (.tuple #[v, .int .i64 (asE 48 x)]) ∧ OwnIt w' w.heap.size w.heap.size v (if asE 48 x = 0 then x.l else [])) ∧ Below w.heap.size w w' := by
  have D0 := Lib.hid ((Below.refl w.heap.size w).alloc (Nat.le_refl _) (.cells #[.int .i64 x.tag, .slice Ab x.b.length cb, .slice Al x.l.length cl] 25))
  have K0 := Lib.hid (Blk.new w 25 #[.int .i64 x.tag, .slice Ab x.b.length cb, .slice Al x.l.length cl])
  have HI := Lib.hid hi
  have P := Lib.hid (fun W (h : IR W W.heap.size x Ab cb Al cl) => asSeq_any x hwf hx Ab cb Al cl W h)
  clear hi
  generalize (if asE 48 x = 0 then x.l else []) = z at *
  generalize asE 48 x = e1 at *
  generalize x.b.length = m at *
  generalize x.l.length = n at *
  go_enter Try.func39, Try.ntmps39
  go_wp2_with fail
  refine (P.out _ (HI.out.on D0.out)).mono ?_; rintro _ w2 ⟨⟨v, rfl, ho⟩, b⟩
  have HO := Lib.hid (ho.less D0.out.size D0.out.size)
  have B2 := Lib.hid (below_on D0.out b)
  clear b ho
  go_wp2_with fail
  go_ret2
  exact ⟨⟨_, rfl, HO.out⟩, B2.out⟩
end Go.Proofs.Yteafbfhojhpbgaa

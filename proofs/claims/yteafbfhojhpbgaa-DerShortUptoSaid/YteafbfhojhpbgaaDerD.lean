/- May an item be: the program's own. -/
import Derived.Test.YteafbfhojhpbgaaDerC
namespace Go.Proofs.Yteafbfhojhpbgaa
open Go.ChangeShapes Go.WideShapes Go.ChangeAt Go.RowKit Gs
set_option linter.unusedVariables false

theorem wf_b {x : It} (h : x.wf) : ∀ y ∈ x.b, 0 ≤ y ∧ y < 256 := ((wf_is x).1 h).2.1
theorem wf_l {x : It} (h : x.wf) : ∀ y ∈ x.l, y.wf := wfs_all.1 ((wf_is x).1 h).2.2

set_option maxRecDepth 100000 in
set_option maxHeartbeats 4000000 in
/-- A tag that is none. -/
theorem mayBe_out (d : Nat) (t : Int) (ht : isTag t = false) (vb vl : Value) (w : World) :
    Calls Try.prog 43 #[.agg #[.int .i64 t, vb, vl], .int .i64 d] w fun e w' => e = .returned (.bool false) ∧ Below w.heap.size w w' := by
  have D0 := Lib.hid (((Below.refl w.heap.size w).alloc (Nat.le_refl _) (.cells #[.int .i64 t, vb, vl] 25)).alloc (by simp) (.cells #[.int .i64 d] 3))
  have KI := Lib.hid ((Blk.new w 25 #[.int .i64 t, vb, vl]).alloc (.cells #[.int .i64 d] 3))
  have k0 := KI.out.cell 0
  go_enter Try.func43, Try.ntmps43
  go_wp2_with fail
  refine (demandOf_any t _).mono ?_; rintro _ w2 ⟨h, b⟩
  obtain rfl := h.2 ht
  have B2 := Lib.hid (below_on D0.out b)
  clear b k0 h
  go_wp2_with fail
  go_ret
  exact ⟨rfl, B2.out.alloc B2.out.size _⟩

set_option maxRecDepth 100000 in
set_option maxHeartbeats 4000000 in
/-- A tag that has no items. -/
theorem mayBe_leaf (d : Nat) (t : Int) (f : FuncId) (hrun : ∀ args w, (callFunc f args).run Try.prog w = .ok (.enter f args) w) (bs : List Int) (ok : Bool) (Ab : Option Addr) (n cb : Nat) (Al : Option Addr) (m cl : Nat)
    (ht : isTag t = true) (hf : dmdF t = f) (h48 : decide (t = 48) = false)
    (PF : ∀ W, SI W W.heap.size .u8 Ab bs → Calls Try.prog f #[.slice Ab n cb] W fun e w' => e = .returned (.bool ok) ∧ Below W.heap.size W w') (w : World) (hs : SI w w.heap.size .u8 Ab bs) :
    Calls Try.prog 43 #[.agg #[.int .i64 t, .slice Ab n cb, .slice Al m cl], .int .i64 d] w fun e w' => e = .returned (.bool (decide (1 ≤ d) && (ok && decide (m = 0)))) ∧ Below w.heap.size w w' := by
  have D0 := Lib.hid (((Below.refl w.heap.size w).alloc (Nat.le_refl _) (.cells #[.int .i64 t, .slice Ab n cb, .slice Al m cl] 25)).alloc (by simp) (.cells #[.int .i64 d] 3))
  have KI := Lib.hid ((Blk.new w 25 #[.int .i64 t, .slice Ab n cb, .slice Al m cl]).alloc (.cells #[.int .i64 d] 3))
  have KD := Lib.hid (Blk.new_at (w.alloc (.cells #[.int .i64 t, .slice Ab n cb, .slice Al m cl] 25)) 3 #[.int .i64 d] (g := w.heap.size + 1) (by simp))
  have HS := Lib.hid hs
  have HPF := Lib.hid PF
  have k0 := KI.out.cell 0
  have PD := Lib.hid (fun W => (demandOf_any t W).mono fun e w' h => (⟨h.1.1 ht, h.2⟩ : e = .returned (.tuple #[.agg #[.int .i64 t, .func (.func (dmdF t)) #[] #[], .bool (decide (t = 48))], .bool true]) ∧ Below W.heap.size W w'))
  rw [h48, hf] at PD
  clear hs PF ht hf h48
  by_cases hd : d = 0
  · subst hd
    have q : decide ((0 : Int) < 1) = true := by decide
    go_enter Try.func43, Try.ntmps43
    go_wp2_with fail
    refine (PD.out _).mono ?_; rintro _ w2 ⟨rfl, b⟩
    have B2 := Lib.hid (below_on D0.out b)
    have KI2 := Lib.hid (KI.out.below b KI.out.lt)
    have KD2 := Lib.hid (KD.out.below b KD.out.lt)
    clear b k0
    have d0 := (KD2.out.alloc (.cells #[.int .i64 t, .func (.func f) #[] #[], .bool false] 75)).cell 0
    go_wp2_with fail
    go_ret
    exact ⟨rfl, B2.out.alloc B2.out.size _⟩
  rw [decide_eq_true (show 1 ≤ d by omega), Bool.true_and]
  have q : decide ((d : Int) < 1) = false := decide_eq_false (by omega)
  clear hd
  go_enter Try.func43, Try.ntmps43
  go_wp2_with fail
  refine (PD.out _).mono ?_; rintro _ w2 ⟨rfl, b⟩
  have B2 := Lib.hid ((below_on D0.out b).alloc (below_on D0.out b).size (.cells #[.int .i64 t, .func (.func f) #[] #[], .bool false] 75))
  have KI2 := Lib.hid ((KI.out.below b KI.out.lt).alloc (.cells #[.int .i64 t, .func (.func f) #[] #[], .bool false] 75))
  have KD2 := Lib.hid ((KD.out.below b KD.out.lt).alloc (.cells #[.int .i64 t, .func (.func f) #[] #[], .bool false] 75))
  have KM2 := Lib.hid (Blk.new w2 75 #[.int .i64 t, .func (.func f) #[] #[], .bool false])
  clear b k0
  have d0 := KD2.out.cell 0
  have k1 := KI2.out.cell 1
  have e1 := KM2.out.cell 1
  go_wp2_with fail
  refine (HPF.out _ (HS.out.on B2.out)).mono ?_; rintro _ w3 ⟨rfl, b⟩
  have B3 := Lib.hid (below_on B2.out b)
  have KI3 := Lib.hid (KI2.out.below b KI2.out.lt)
  have KM3 := Lib.hid (KM2.out.below b KM2.out.lt)
  clear b d0 k1 e1
  have k2 := KI3.out.cell 2
  have e2 := KM3.out.cell 2
  cases ok with
  | false =>
    go_wp2_with fail
    go_ret
    exact ⟨rfl, B3.out⟩
  | true =>
    by_cases hm : m = 0
    · subst hm
      go_wp2_with fail
      go_ret
      exact ⟨rfl, B3.out⟩
    · have qm : ((m : Int) == 0) = false := beq_eq_false_iff_ne.2 (by omega)
      have HM := Lib.hid hm
      clear hm
      go_wp2_with fail
      go_ret
      exact ⟨by rw [decide_eq_false HM.out]; rfl, B3.out⟩

set_option maxRecDepth 100000 in
set_option maxHeartbeats 4000000 in
theorem indexI_any (f : FuncId) (hrun : ∀ args w, (callFunc f args).run Try.prog w = .ok (.enter f args) w) (cap : Array Value) (p : It → Bool) (A : Option Addr) (n c : Nat) (l : List It) (hn : l.length = n) (hc : n ≤ maxLen) (w : World) (hs : IS w w.heap.size A l)
    (hf : ∀ x ∈ l, ∀ Ab cb Al cl W, Below w.heap.size w W → IR W W.heap.size x Ab cb Al cl → Calls Try.prog f (#[.agg #[.int .i64 x.tag, .slice Ab x.b.length cb, .slice Al x.l.length cl]] ++ cap) W fun e w' => e = .returned (.bool (p x)) ∧ Below W.heap.size W w') :
    Calls Try.prog 77 #[.slice A n c, .func (.func f) #[] cap] w fun e w' => (∃ r, e = .returned (.int .i64 r) ∧ IdxP p l r) ∧ Below w.heap.size w w' := by
  have hnm : n ≤ 9223372036854775807 := by unfold maxLen at hc; omega
  have HS := Lib.hid hs
  have HF := Lib.hid hf
  clear hs hc hf
  go_enter Try.func77, Try.ntmps77
  go_wp2_with fail
  go_loopw [5, 8] (fun _ j wr => ∃ k : Nat, k ≤ n ∧ j = .int .i64 k ∧ (l.take k).any p = false ∧ Below w.heap.size w wr) (fun _ j _ => n - (intOf j).toNat)
  case atStart => exact ⟨0, by omega, rfl, by simp, Below.refl _ _⟩
  case round =>
    obtain ⟨k, hk, rfl, h0, hb⟩ := hrel
    have HB := Lib.hid hb
    have H0 := Lib.hid h0
    have hz := hb.size
    clear hb h0
    by_cases hlt : k < n
    · have hkl : k < l.length := by rw [hn]; exact hlt
      obtain ⟨ad, rfl, had, Ab, cb, Al, cl, c0, c1, c2, hi⟩ := (HS.out.on HB.out).at_ k hkl
      have P := Lib.hid (HF.out l[k] (List.getElem_mem hkl) Ab cb Al cl wr HB.out hi)
      have HY := Lib.hid (fun (e : p l[k] = true) => (show IdxP p l k from ⟨fun _ => (show (0 : Int) ≤ (k : Int) from Int.natCast_nonneg k), fun h => by
        rw [List.any_eq_false] at h
        exact absurd e (h l[k] (List.getElem_mem hkl))⟩))
      have HN := Lib.hid (fun (e : p l[k] = false) => (show (l.take (k + 1)).any p = false by
        rw [List.take_succ_eq_append_getElem hkl, List.any_append, H0.out]
        simpa using e))
      generalize p l[k] = v at *
      clear hi
      generalize l[k].tag = y1 at *
      generalize l[k].b.length = y2 at *
      generalize l[k].l.length = y3 at *
      go_wp2_with fail
      refine P.out.mono ?_; rintro _ w2 ⟨rfl, b2⟩
      have B2 := Lib.hid (HB.out.trans (b2.mono hz))
      clear b2 c0 c1 c2
      cases v with
      | true =>
        have HY2 := Lib.hid (HY.out rfl)
        clear HY HN
        go_wp2_with fail
        go_ret
        exact ⟨⟨_, rfl, HY2.out⟩, B2.out⟩
      | false =>
        have HN2 := Lib.hid (HN.out rfl)
        clear HY HN
        go_wp2_with fail
        go_roundw
        case rel => exact ⟨k + 1, by omega, by go_num, HN2.out, B2.out⟩
        case measure => simp [intOf]; omega
    · obtain rfl : k = n := by omega
      have HA := Lib.hid (show IdxP p l (-1) from ⟨fun h => (by
        have := H0.out
        rw [← hn, List.take_length] at this
        rw [this] at h; cases h), fun _ => rfl⟩)
      go_wp2_with fail
      go_ret
      exact ⟨⟨_, rfl, HA.out⟩, HB.out⟩

set_option maxHeartbeats 4000000 in
theorem containsI_any (f : FuncId) (hrun : ∀ args w, (callFunc f args).run Try.prog w = .ok (.enter f args) w) (cap : Array Value) (p : It → Bool) (A : Option Addr) (n c : Nat) (l : List It) (hn : l.length = n) (hc : n ≤ maxLen) (w : World) (hs : IS w w.heap.size A l)
    (hf : ∀ x ∈ l, ∀ Ab cb Al cl W, Below w.heap.size w W → IR W W.heap.size x Ab cb Al cl → Calls Try.prog f (#[.agg #[.int .i64 x.tag, .slice Ab x.b.length cb, .slice Al x.l.length cl]] ++ cap) W fun e w' => e = .returned (.bool (p x)) ∧ Below W.heap.size W w') :
    Calls Try.prog 67 #[.slice A n c, .func (.func f) #[] cap] w fun e w' => e = .returned (.bool (l.any p)) ∧ Below w.heap.size w w' := by
  have P := Lib.hid (indexI_any f hrun cap p A n c l hn hc w hs hf)
  clear hs hf
  unfold IdxP at P
  generalize l.any p = v at *
  go_enter Try.func67, Try.ntmps67
  go_wp2_with fail
  refine P.out.mono ?_; rintro _ w2 ⟨⟨r, rfl, hr⟩, b2⟩
  have B2 := Lib.hid b2
  clear b2
  cases v with
  | true =>
    have q : decide (0 ≤ r) = true := decide_eq_true (hr.1 rfl)
    clear hr
    go_wp2_with fail
    go_ret
    exact ⟨rfl, B2.out⟩
  | false =>
    obtain rfl : r = -1 := hr.2 rfl
    clear hr
    go_wp2_with fail
    go_ret
    exact ⟨rfl, B2.out⟩

set_option maxHeartbeats 4000000 in
theorem part_any (d : Nat) (hd : d ≤ 8) (t : Int) (vb vl : Value) (r : Bool) (g : Nat) (w : World) (hg : g < w.heap.size) (hc : w.cell? ⟨g, 0, none⟩ = some (.int .i64 ((d + 1 : Nat) : Int)))
    (IH : ∀ W, Below w.heap.size w W → Calls Try.prog 43 #[.agg #[.int .i64 t, vb, vl], .int .i64 d] W fun e w' => e = .returned (.bool r) ∧ Below W.heap.size W w') :
    Calls Try.prog 68 #[.agg #[.int .i64 t, vb, vl], .pointer (some ⟨g, 0, none⟩)] w fun e w' => e = .returned (.bool (!r)) ∧ Below w.heap.size w w' := by
  have D0 := Lib.hid ((Below.refl w.heap.size w).alloc (Nat.le_refl _) (.cells #[.int .i64 t, vb, vl] 25))
  have HI := Lib.hid IH
  have e : IntKind.i64.wrap (((d + 1 : Nat) : Int) - 1) = (d : Int) := by rw [show ((d + 1 : Nat) : Int) - 1 = (d : Int) by omega]; exact IntWalk.i64_in _ (by omega)
  have c0 := (D0.out.cell (p := ⟨g, 0, none⟩) hg).trans hc
  have hne : g ≠ w.heap.size := by omega
  obtain ⟨z, hz⟩ : ∃ z : Int, ((d + 1 : Nat) : Int) = z := ⟨_, rfl⟩
  rw [hz] at e hc c0
  clear IH hz hc
  go_enter Try.func68, Try.ntmps68
  go_wp2_with fail
  refine (HI.out _ D0.out).mono ?_; rintro _ w2 ⟨rfl, b2⟩
  have B2 := Lib.hid (below_on D0.out b2)
  clear b2
  go_wp2_with fail
  go_ret
  exact ⟨rfl, B2.out⟩
end Go.Proofs.Yteafbfhojhpbgaa

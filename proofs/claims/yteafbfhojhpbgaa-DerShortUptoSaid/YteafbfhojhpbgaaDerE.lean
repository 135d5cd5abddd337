/- May an item be: the program's own, for every item. -/
import Derived.Test.YteafbfhojhpbgaaDerD
namespace Go.Proofs.Yteafbfhojhpbgaa
open Go.ChangeShapes Go.WideShapes Go.ChangeAt Go.RowKit Gs
set_option linter.unusedVariables false

/-- Of a sequence. -/
def seqB : Nat → Nat → List It → Bool
  | 0, _, _ => false
  | d + 1, n, l => decide (n = 0) && l.all (mayI d)

set_option maxRecDepth 100000 in
set_option maxHeartbeats 4000000 in
theorem mayBe_seq (d : Nat) (n m : Nat) (l : List It) (hm : l.length = m) (Ab : Option Addr) (cb : Nat) (Al : Option Addr) (cl : Nat) (hml : m ≤ maxLen) (w : World) (hs : IS w w.heap.size Al l)
    (IH : ∀ d', d = d' + 1 → d' ≤ 8 ∧ ∀ x ∈ l, ∀ Ab cb Al cl W, IR W W.heap.size x Ab cb Al cl → Calls Try.prog 43 #[.agg #[.int .i64 x.tag, .slice Ab x.b.length cb, .slice Al x.l.length cl], .int .i64 d'] W fun e w' => e = .returned (.bool (mayI d' x)) ∧ Below W.heap.size W w') :
    Calls Try.prog 43 #[.agg #[.int .i64 48, .slice Ab n cb, .slice Al m cl], .int .i64 d] w fun e w' => e = .returned (.bool (seqB d n l)) ∧ Below w.heap.size w w' := by
  have D0 := Lib.hid (((Below.refl w.heap.size w).alloc (Nat.le_refl _) (.cells #[.int .i64 48, .slice Ab n cb, .slice Al m cl] 25)).alloc (by simp) (.cells #[.int .i64 d] 3))
  have KI := Lib.hid ((Blk.new w 25 #[.int .i64 48, .slice Ab n cb, .slice Al m cl]).alloc (.cells #[.int .i64 d] 3))
  have KD := Lib.hid (Blk.new_at (w.alloc (.cells #[.int .i64 48, .slice Ab n cb, .slice Al m cl] 25)) 3 #[.int .i64 d] (g := w.heap.size + 1) (by simp))
  have HS := Lib.hid hs
  have HIH := Lib.hid IH
  have k0 := KI.out.cell 0
  have PD := Lib.hid (fun W => (demandOf_any 48 W).mono fun e w' h => (⟨h.1.1 rfl, h.2⟩ : e = .returned (.tuple #[.agg #[.int .i64 48, .func (.func 85) #[] #[], .bool true], .bool true]) ∧ Below W.heap.size W w'))
  have PF := Lib.hid (fun W => none_any Ab n cb W)
  clear hs IH
  rcases d with _ | d
  · have q : decide ((0 : Int) < 1) = true := by decide
    go_enter Try.func43, Try.ntmps43
    go_wp2_with fail
    refine (PD.out _).mono ?_; rintro _ w2 ⟨rfl, b⟩
    have B2 := Lib.hid (below_on D0.out b)
    have KD2 := Lib.hid (KD.out.below b KD.out.lt)
    clear b k0
    have d0 := (KD2.out.alloc (.cells #[.int .i64 48, .func (.func 85) #[] #[], .bool true] 75)).cell 0
    go_wp2_with fail
    go_ret
    exact ⟨rfl, B2.out.alloc B2.out.size _⟩
  have q : decide (((d + 1 : Nat) : Int) < 1) = false := decide_eq_false (by omega)
  obtain ⟨hd8, HX⟩ := HIH.out d rfl
  have HC := Lib.hid (fun (W : World) (hg : w.heap.size + 1 < W.heap.size) (hc : W.cell? ⟨w.heap.size + 1, 0, none⟩ = some (.int .i64 ((d + 1 : Nat) : Int))) (hB : IS W W.heap.size Al l) =>
    containsI_any 68 (runs_in Try.func68 (by kernel_rfl) rfl) #[.pointer (some ⟨w.heap.size + 1, 0, none⟩)] (fun x => !mayI d x) Al m cl l hm hml W hB
      (fun x hx Ab cb Al cl W' hW hi => part_any d hd8 x.tag _ _ (mayI d x) (w.heap.size + 1) W' (Nat.lt_of_lt_of_le hg hW.size) ((hW.cell (p := ⟨w.heap.size + 1, 0, none⟩) hg).trans hc) (fun W2 hW2 => HX x hx Ab cb Al cl W2 (hi.on hW2))))
  have ha : l.any (fun x => !mayI d x) = !(l.all (mayI d)) := by rw [← List.not_all_eq_any_not]
  rw [ha] at HC
  rw [show seqB (d + 1) n l = (decide (n = 0) && l.all (mayI d)) from rfl]
  generalize l.all (mayI d) = v at *
  clear HX HIH ha
  obtain ⟨z, hz⟩ : ∃ z : Int, ((d + 1 : Nat) : Int) = z := ⟨_, rfl⟩
  rw [hz] at q KD KI D0 HC k0 ⊢
  clear hz
  go_enter Try.func43, Try.ntmps43
  go_wp2_with fail
  refine (PD.out _).mono ?_; rintro _ w2 ⟨rfl, b⟩
  have B2 := Lib.hid ((below_on D0.out b).alloc (below_on D0.out b).size (.cells #[.int .i64 48, .func (.func 85) #[] #[], .bool true] 75))
  have KI2 := Lib.hid ((KI.out.below b KI.out.lt).alloc (.cells #[.int .i64 48, .func (.func 85) #[] #[], .bool true] 75))
  have KD2 := Lib.hid ((KD.out.below b KD.out.lt).alloc (.cells #[.int .i64 48, .func (.func 85) #[] #[], .bool true] 75))
  have KM2 := Lib.hid (Blk.new w2 75 #[.int .i64 48, .func (.func 85) #[] #[], .bool true])
  clear b k0
  have d0 := KD2.out.cell 0
  have k1 := KI2.out.cell 1
  have e1 := KM2.out.cell 1
  go_wp2_with fail
  refine (PF.out _).mono ?_; rintro _ w3 ⟨rfl, b⟩
  have B3 := Lib.hid (below_on B2.out b)
  have KI3 := Lib.hid (KI2.out.below b KI2.out.lt)
  have KM3 := Lib.hid (KM2.out.below b KM2.out.lt)
  have KD3 := Lib.hid (KD2.out.below b KD2.out.lt)
  clear b d0 k1 e1
  have k2 := KI3.out.cell 2
  have e2 := KM3.out.cell 2
  by_cases hn : n = 0
  · subst hn
    go_wp2_with fail
    refine (HC.out _ KD3.out.lt (KD3.out.cell 0) (HS.out.on B3.out)).mono ?_; rintro _ w4 ⟨rfl, b⟩
    have B4 := Lib.hid (below_on B3.out b)
    clear b
    go_wp2_with fail
    go_ret
    exact ⟨by cases v <;> rfl, B4.out⟩
  · rw [decide_eq_false hn]
    have HN := Lib.hid hn
    clear hn
    go_wp2_with fail
    go_ret
    exact ⟨by rw [decide_eq_false HN.out]; rfl, B3.out⟩

theorem okB_1 (b : List Int) : okB 1 b = boolB b := rfl
theorem okB_2 (b : List Int) : okB 2 b = intB b := rfl
theorem okB_4 (b : List Int) : okB 4 b = true := rfl
theorem okB_12 (b : List Int) : okB 12 b = textB b := rfl
theorem okB_48 (b : List Int) : okB 48 b = decide (b.length = 0) := rfl
theorem mayI_leaf (d : Nat) (x : It) (h : x.tag ≠ 48) : mayI d x = (decide (1 ≤ d) && (okB x.tag x.b && decide (x.l.length = 0))) := by
  rcases d with _ | d
  · rfl
  · rw [mayI, if_neg h]; simp
theorem isTag_cases {t : Int} (h : isTag t = true) : t = 1 ∨ t = 2 ∨ t = 4 ∨ t = 12 ∨ t = 48 := of_decide_eq_true h

/-- May an item be, so deep at most. -/
theorem mayBe_any : ∀ (d : Nat), d ≤ 8 → ∀ (x : It), x.wf → ∀ (Ab : Option Addr) (cb : Nat) (Al : Option Addr) (cl : Nat) (w : World), IR w w.heap.size x Ab cb Al cl →
    Calls Try.prog 43 #[.agg #[.int .i64 x.tag, .slice Ab x.b.length cb, .slice Al x.l.length cl], .int .i64 d] w fun e w' => e = .returned (.bool (mayI d x)) ∧ Below w.heap.size w w'
  | d, hd, x, hwf, Ab, cb, Al, cl, w, hi => by
    by_cases ht : isTag x.tag = true
    · have hb := wf_b hwf
      have hbm := Nat.le_trans hi.bl hi.bm
      rcases isTag_cases ht with h | h | h | h | h
      · rw [mayI_leaf d x (by omega), h]
        exact mayBe_leaf d 1 81 (runs_in Try.func81 (by kernel_rfl) rfl) x.b (boolB x.b) Ab _ cb Al _ cl rfl rfl rfl (fun W h => areBool_any Ab _ cb x.b rfl W h) w hi.bi
      · rw [mayI_leaf d x (by omega), h]
        exact mayBe_leaf d 2 82 (runs_in Try.func82 (by kernel_rfl) rfl) x.b (intB x.b) Ab _ cb Al _ cl rfl rfl rfl (fun W h => areInt_any Ab _ cb x.b rfl hb W h) w hi.bi
      · rw [mayI_leaf d x (by omega), h]
        exact mayBe_leaf d 4 83 (runs_in Try.func83 (by kernel_rfl) rfl) x.b true Ab _ cb Al _ cl rfl rfl rfl (fun W h => oct_any _ W) w hi.bi
      · rw [mayI_leaf d x (by omega), h]
        exact mayBe_leaf d 12 84 (runs_in Try.func84 (by kernel_rfl) rfl) x.b (textB x.b) Ab _ cb Al _ cl rfl rfl rfl (fun W h => areText_any Ab _ cb x.b rfl hbm W h) w hi.bi
      · rw [h]
        have e : mayI d x = seqB d x.b.length x.l := by
          rcases d with _ | d
          · rfl
          · show (okB x.tag x.b && (if x.tag = 48 then x.l.all (mayI d) else decide (x.l.length = 0))) = _
            rw [if_pos h, h, okB_48]; rfl
        rw [e]
        exact mayBe_seq d _ _ x.l rfl Ab cb Al cl (Nat.le_trans hi.ll hi.lm) w hi.li (fun d' hd' => ⟨by omega, fun y hy Ab cb Al cl W hW => mayBe_any d' (by omega) y (wf_l hwf y hy) Ab cb Al cl W hW⟩)
    · have hf : isTag x.tag = false := by simpa using ht
      have e : mayI d x = false := by
        rcases d with _ | d
        · rfl
        · have : okB x.tag x.b = false := by
            cases h : okB x.tag x.b with
            | false => rfl
            | true => exact absurd (okB_tag h) ht
          rw [mayI, this]; rfl
      rw [e]
      exact mayBe_out d x.tag hf _ _ w
  termination_by d => d
end Go.Proofs.Yteafbfhojhpbgaa

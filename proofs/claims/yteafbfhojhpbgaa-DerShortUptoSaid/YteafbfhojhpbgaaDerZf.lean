/- How great an item is: the document's own. -/
import Derived.Test.YteafbfhojhpbgaaDerN
namespace Go.Proofs.Yteafbfhojhpbgaa
open Go.ChangeShapes Go.WideShapes Go.ChangeAt Go.RowKit Gs
set_option linter.unusedVariables false

/-- What Weigh tells: the weight, if it is not above the bound; else something above it. -/
def WeighOf (x : It) : Prop := ∀ (most : Nat) (hm : most ≤ 1000000) (Ab : Option Addr) (cb : Nat) (Al : Option Addr) (cl : Nat) (w : World), IR w w.heap.size x Ab cb Al cl →
  Calls Try.prog 42 #[.agg #[.int .i64 x.tag, .slice Ab x.b.length cb, .slice Al x.l.length cl], .int .i64 (most : Int)] w fun e w' => (∃ r : Nat, e = .returned (.int .i64 (r : Int)) ∧ r ≤ x.wt ∧ (r ≤ most → r = x.wt)) ∧ Below w.heap.size w w'
theorem wts_take7 {l : List It} {k : Nat} (hk : k < l.length) : wts (l.take (k + 1)) = wts (l.take k) + l[k].wt := by
  have hadd : ∀ a b : List It, wts (a ++ b) = wts a + wts b := by
    intro a b
    induction a with
    | nil => simp [wts]
    | cons x r ih => rw [List.cons_append, wts, wts, ih]; omega
  rw [List.take_succ_eq_append_getElem hk, hadd]
  simp [wts]
theorem wts_take_le (l : List It) (k : Nat) : wts (l.take k) ≤ wts l := by
  have hadd : ∀ a b : List It, wts (a ++ b) = wts a + wts b := by
    intro a b
    induction a with
    | nil => simp [wts]
    | cons x r ih => rw [List.cons_append, wts, wts, ih]; omega
  have := hadd (l.take k) (l.drop k)
  rw [List.take_append_drop] at this
  omega

set_option maxRecDepth 100000 in
set_option maxHeartbeats 8000000 in
theorem weigh_from (x : It) (hbig : x.wt ≤ 1000000000) (IH : ∀ a ∈ x.l, WeighOf a) : WeighOf x := by
  intro most hmo Ab cb Al cl w hi
  have HI := Lib.hid hi
  have hnm : x.l.length ≤ 9223372036854775807 := by have := Nat.le_trans hi.ll hi.lm; unfold maxLen at this; exact this
  have HIH := Lib.hid IH
  have HWT := Lib.hid (wt_is x)
  have D0 := Lib.hid ((Below.refl w.heap.size w).alloc (Nat.le_refl _) (.cells #[.int .i64 x.tag, .slice Ab x.b.length cb, .slice Al x.l.length cl] 25))
  have K1 := Lib.hid (Blk.new w 25 #[.int .i64 x.tag, .slice Ab x.b.length cb, .slice Al x.l.length cl])
  have HL := Lib.hid (fun (W : World) (hb : Below w.heap.size w W) => (HI.out.on hb).li)
  obtain ⟨T, hT⟩ : ∃ T, x.wt = T := ⟨_, rfl⟩
  rw [hT] at HWT hbig ⊢
  obtain ⟨l, hl⟩ : ∃ l, x.l = l := ⟨_, rfl⟩
  rw [hl] at HIH HL hnm HWT K1 D0 ⊢
  have hTl := HWT.out
  clear hi IH HI hl hT
  obtain ⟨n, hn⟩ : ∃ n, l.length = n := ⟨_, rfl⟩
  have HN := Lib.hid hn
  rw [hn] at K1 D0 hnm ⊢
  clear hn
  generalize x.b.length = m1 at *
  generalize x.tag = tg at *
  have hm1 : m1 ≤ 1000000000 := by omega
  clear hTl
  have hw1 : IntKind.i64.wrap (2 + (m1 : Int)) = ((2 + m1 : Nat) : Int) := by rw [show (2 : Int) + (m1 : Int) = ((2 + m1 : Nat) : Int) by omega]; exact IntWalk.i64_in _ (by omega)
  have k0 := K1.out.cell 0
  have k1 := K1.out.cell 1
  have k2 := K1.out.cell 2
  go_enter Try.func42, Try.ntmps42
  go_wp2_with fail
  clear k0 k1 k2 hw1
  go_loopw [5, 6] (fun s i wr => ∃ k r : Nat, k ≤ n ∧ s = .int .i64 (r : Int) ∧ i = .int .i64 (k : Int) ∧ Below w.heap.size w wr ∧ Blk wr w.heap.size 25 #[.int .i64 tg, .slice Ab m1 cb, .slice Al n cl] ∧ r ≤ T ∧ Hid (r ≤ 2 + m1 + wts (l.take k) ∧ (r ≤ most → r = 2 + m1 + wts (l.take k)))) (fun _ i _ => n - (intOf i).toNat)
  case atStart => exact ⟨0, 2 + m1, by omega, by first | rfl | (congr 1; omega), rfl, D0.out, K1.out, by have := HWT.out; omega, Lib.hid ⟨by simp [wts], fun _ => by simp [wts]⟩⟩
  case round =>
    obtain ⟨k, r, hk, rfl, rfl, hb, kb1, hrT, HR⟩ := hrel
    have HB := Lib.hid hb
    have KB1 := Lib.hid kb1
    have hz := hb.size
    have k2 := kb1.cell 2
    clear hb kb1
    by_cases hlt : k < n
    · have d1 : decide ((k : Int) < (n : Int)) = true := decide_eq_true (by omega)
      by_cases hrm : r ≤ most
      · have d2 : decide ((r : Int) ≤ (most : Int)) = true := decide_eq_true (by omega)
        have hkl : k < l.length := by rw [HN.out]; exact hlt
        obtain ⟨ad, rfl, had, Ab2, cb2, Al2, cl2, c0, c1, c2, hi⟩ := (HL.out wr HB.out).at_ k hkl
        have P := Lib.hid (HIH.out l[k] (List.getElem_mem hkl) most hmo Ab2 cb2 Al2 cl2 wr hi)
        have HS := Lib.hid (And.intro (wts_take7 hkl) (wts_take_le l (k + 1)))
        clear hi
        generalize l[k].wt = wk at *
        generalize l[k].tag = y1 at *
        generalize l[k].b.length = y2 at *
        generalize l[k].l.length = y3 at *
        clear d1 d2
        have d1 : decide ((k : Int) < (n : Int)) = true := decide_eq_true (by omega)
        have d2 : decide ((r : Int) ≤ (most : Int)) = true := decide_eq_true (by omega)
        go_wp2_with fail
        refine P.out.mono ?_; rintro _ w2 ⟨⟨q, rfl, hq1, hq2⟩, b2⟩
        have B2 := Lib.hid (HB.out.trans (b2.mono hz))
        have KC1 := Lib.hid (KB1.out.below b2 KB1.out.lt)
        have HX := Lib.hid (show r + q ≤ T ∧ r + q ≤ 2 + m1 + wts (l.take (k + 1)) ∧ (r + q ≤ most → r + q = 2 + m1 + wts (l.take (k + 1))) by
          have h1 := HR.out.2 hrm
          have h2 := HS.out.1
          have h3 := HS.out.2
          have h4 := HWT.out
          refine ⟨by omega, by omega, fun h => ?_⟩
          have := hq2 (by omega)
          omega)
        have hrq : r + q ≤ 1000000000 := by have := HX.out.1; omega
        have hw2 : IntKind.i64.wrap ((r : Int) + (q : Int)) = ((r + q : Nat) : Int) := by rw [show (r : Int) + (q : Int) = ((r + q : Nat) : Int) by omega]; exact IntWalk.i64_in _ (by omega)
        clear b2 hq1 hq2 c0 c1 c2 k2 d1 d2
        go_wp2_with fail
        go_roundw
        case rel => exact ⟨k + 1, r + q, by omega, by first | rfl | (congr 1; omega), by go_num, B2.out, KC1.out, HX.out.1, Lib.hid HX.out.2⟩
        case measure => simp [intOf]; omega
      · have d2 : decide ((r : Int) ≤ (most : Int)) = false := decide_eq_false (by omega)
        have HX := Lib.hid (show r ≤ T ∧ (r ≤ most → r = T) from ⟨hrT, fun h => absurd h hrm⟩)
        go_wp2_with fail
        go_ret
        exact ⟨⟨r, rfl, HX.out.1, HX.out.2⟩, HB.out⟩
    · obtain rfl : k = n := by omega
      have d1 : decide ((k : Int) < (k : Int)) = false := decide_eq_false (by omega)
      have HX := Lib.hid (show r ≤ T ∧ (r ≤ most → r = T) from ⟨hrT, fun h => by
        have h1 := HR.out.2 h
        have h4 := HWT.out
        rw [List.take_of_length_le (by rw [HN.out]; exact Nat.le_refl _)] at h1
        omega⟩)
      go_wp2_with fail
      go_ret
      exact ⟨⟨r, rfl, HX.out.1, HX.out.2⟩, HB.out⟩
theorem weigh_any : ∀ x : It, x.wt ≤ 1000000000 → WeighOf x := it_ind fun x ih hx => weigh_from x hx (fun a ha => ih a ha (by have := wt_child ha; omega))
set_option maxHeartbeats 2000000 in
theorem Few_any (x : It) (hbig : x.wt ≤ 1000000000) (Ab : Option Addr) (cb : Nat) (Al : Option Addr) (cl : Nat) (w : World) (hi : IR w w.heap.size x Ab cb Al cl) :
    Calls Try.prog 13 #[.agg #[.int .i64 x.tag, .slice Ab x.b.length cb, .slice Al x.l.length cl]] w fun e w' => e = .returned (.bool (decide (x.wt ≤ 9000))) ∧ Below w.heap.size w w' := by
  have D0 := Lib.hid ((Below.refl w.heap.size w).alloc (Nat.le_refl _) (.cells #[.int .i64 x.tag, .slice Ab x.b.length cb, .slice Al x.l.length cl] 25))
  have P := Lib.hid (weigh_any x hbig 9000 (by omega) Ab cb Al cl _ (hi.on D0.out))
  have K1 := Lib.hid (Blk.new w 25 #[.int .i64 x.tag, .slice Ab x.b.length cb, .slice Al x.l.length cl])
  rw [show ((9000 : Nat) : Int) = 9000 from rfl] at P
  obtain ⟨T, hT⟩ : ∃ T, x.wt = T := ⟨_, rfl⟩
  rw [hT] at P ⊢
  clear hi hbig hT
  have k0 := K1.out.cell 0
  have k1 := K1.out.cell 1
  have k2 := K1.out.cell 2
  generalize x.b.length = m1 at *
  generalize x.l.length = m2 at *
  generalize x.tag = tg at *
  go_enter Try.func13, Try.ntmps13
  go_wp2_with fail
  refine P.out.mono ?_; rintro _ w2 ⟨⟨q, rfl, hq1, hq2⟩, b2⟩
  have B2 := Lib.hid (below_on D0.out b2)
  have HE := Lib.hid (show decide ((q : Int) ≤ 9000) = decide (T ≤ 9000) by
    rw [decide_eq_decide]
    constructor
    · intro h; have := hq2 (by omega); omega
    · intro h; omega)
  clear b2 hq1 hq2 k0 k1 k2
  go_wp2_with fail
  go_ret
  exact ⟨by rw [← HE.out]; rfl, B2.out⟩
end Go.Proofs.Yteafbfhojhpbgaa

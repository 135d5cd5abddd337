/- Are items the same: the document's own, of one item twice. -/
import Derived.Test.YteafbfhojhpbgaaDerN
import Derived.StillTailTactics
namespace Go.Proofs.Yteafbfhojhpbgaa
open Go.ChangeShapes Go.WideShapes Go.ChangeAt Go.RowKit Gs
set_option linter.unusedVariables false

/-- The document's Same tells yes of two places that hold this item. -/
def SameYes (x : It) : Prop := ∀ (Ab : Option Addr) (cb : Nat) (Al : Option Addr) (cl : Nat) (Ab' : Option Addr) (cb' : Nat) (Al' : Option Addr) (cl' : Nat) (w : World), IR w w.heap.size x Ab cb Al cl → IR w w.heap.size x Ab' cb' Al' cl' →
  Calls Try.prog 18 #[.agg #[.int .i64 x.tag, .slice Ab x.b.length cb, .slice Al x.l.length cl], .agg #[.int .i64 x.tag, .slice Ab' x.b.length cb', .slice Al' x.l.length cl']] w fun e w' => e = .returned (.bool true) ∧ Below w.heap.size w w'

set_option maxRecDepth 100000 in
set_option maxHeartbeats 8000000 in
theorem sameYes_from (x : It) (hx : x.wf) (IH : ∀ a ∈ x.l, SameYes a) : SameYes x := by
  intro Ab cb Al cl Ab' cb' Al' cl' w hi hi'
  have HI := Lib.hid hi
  have HI' := Lib.hid hi'
  have hnm : x.l.length ≤ 9223372036854775807 := by have := Nat.le_trans hi.ll hi.lm; unfold maxLen at this; exact this
  have HIH := Lib.hid IH
  have D0 := Lib.hid (((Below.refl w.heap.size w).alloc (Nat.le_refl _) (.cells #[.int .i64 x.tag, .slice Ab x.b.length cb, .slice Al x.l.length cl] 25)).alloc (by simp) (.cells #[.int .i64 x.tag, .slice Ab' x.b.length cb', .slice Al' x.l.length cl'] 25))
  have K1 := Lib.hid ((Blk.new w 25 #[.int .i64 x.tag, .slice Ab x.b.length cb, .slice Al x.l.length cl]).alloc (.cells #[.int .i64 x.tag, .slice Ab' x.b.length cb', .slice Al' x.l.length cl'] 25))
  have K2 := Lib.hid (Blk.new_at (w.alloc (.cells #[.int .i64 x.tag, .slice Ab x.b.length cb, .slice Al x.l.length cl] 25)) 25 #[.int .i64 x.tag, .slice Ab' x.b.length cb', .slice Al' x.l.length cl'] (g := w.heap.size + 1) (by simp))
  have cv := conv_si (c := cb) (n := x.b.length) rfl (HI.out.on D0.out).bi
  have cv' := conv_si (c := cb') (n := x.b.length) rfl (HI'.out.on D0.out).bi
  have HL := Lib.hid (fun (W : World) (hb : Below w.heap.size w W) => (HI.out.on hb).li)
  have HL' := Lib.hid (fun (W : World) (hb : Below w.heap.size w W) => (HI'.out.on hb).li)
  obtain ⟨l, hl⟩ : ∃ l, x.l = l := ⟨_, rfl⟩
  rw [hl] at HIH HL HL' hnm
  rw [hl] at K1 K2 D0 cv cv' ⊢
  clear hi hi' hx IH HI HI' hl
  have HLEN := Lib.hid (Eq.refl l.length)
  obtain ⟨n, hn⟩ : ∃ n, l.length = n := ⟨_, rfl⟩
  have HN := Lib.hid hn
  rw [hn] at K1 K2 D0 cv cv' hnm ⊢
  clear hn HLEN
  generalize strOfNums x.b = str at cv cv'
  generalize x.b.length = m1 at *
  generalize x.tag = tg at *
  have qs : (str.toList != str.toList) = false := by simp
  have k0 := K1.out.cell 0
  have k1 := K1.out.cell 1
  have k2 := K1.out.cell 2
  have j0 := K2.out.cell 0
  have j1 := K2.out.cell 1
  have j2 := K2.out.cell 2
  go_enter Try.func18, Try.ntmps18
  go_wp2_with fail
  clear k0 k1 k2 j0 j1 j2 cv cv'
  go_loopw [5] (fun i wr => ∃ k : Nat, k ≤ n ∧ i = .int .i64 (k : Int) ∧ Below w.heap.size w wr ∧ Blk wr w.heap.size 25 #[.int .i64 tg, .slice Ab m1 cb, .slice Al n cl] ∧ Blk wr (w.heap.size + 1) 25 #[.int .i64 tg, .slice Ab' m1 cb', .slice Al' n cl']) (fun i _ => n - (intOf i).toNat)
  case atStart => exact ⟨0, by omega, rfl, D0.out, K1.out, K2.out⟩
  case round =>
    obtain ⟨k, hk, rfl, hb, kb1, kb2⟩ := hrel
    have HB := Lib.hid hb
    have KB1 := Lib.hid kb1
    have KB2 := Lib.hid kb2
    have hz := hb.size
    have k2 := kb1.cell 2
    have j2 := kb2.cell 2
    clear hb kb1 kb2
    by_cases hlt : k < n
    · have hkl : k < l.length := by rw [HN.out]; exact hlt
      obtain ⟨ad, rfl, had, Ab2, cb2, Al2, cl2, c0, c1, c2, hi⟩ := (HL.out wr HB.out).at_ k hkl
      obtain ⟨ae, rfl, hae, Ab3, cb3, Al3, cl3, d0, d1, d2, hi'⟩ := (HL'.out wr HB.out).at_ k hkl
      have P := Lib.hid (HIH.out l[k] (List.getElem_mem hkl) Ab2 cb2 Al2 cl2 Ab3 cb3 Al3 cl3 wr.drew (hi.on (Below.refl _ _).drew) (hi'.on (Below.refl _ _).drew))
      clear hi hi'
      generalize l[k].tag = y1 at *
      generalize l[k].b.length = y2 at *
      generalize l[k].l.length = y3 at *
      go_wp2_with fail
      go_still_tail 10, (by kernel_rfl)
      change wpList _ _ _ _ _ wr.drew
      clear c0 c1 c2 d0 d1 d2 k2 j2
      go_wp2_with fail
      refine P.out.mono ?_; rintro _ w2 ⟨rfl, b2⟩
      have B1 := Lib.hid ((Below.refl wr.heap.size wr).drew.trans (b2.mono (Nat.le_refl _)))
      have B2 := Lib.hid (HB.out.trans (B1.out.mono hz))
      have KC1 := Lib.hid (KB1.out.below B1.out KB1.out.lt)
      have KC2 := Lib.hid (KB2.out.below B1.out KB2.out.lt)
      clear b2
      go_wp2_with fail
      go_roundw
      case rel => exact ⟨k + 1, by omega, by go_num, B2.out, KC1.out, KC2.out⟩
      case measure => simp [intOf]; omega
    · obtain rfl : k = n := by omega
      go_wp2_with fail
      go_ret
      exact ⟨rfl, HB.out⟩
theorem sameYes_any : ∀ x : It, x.wf → SameYes x := it_ind fun x ih hx => sameYes_from x hx (fun a ha => ih a ha (wf_l hx a ha))
end Go.Proofs.Yteafbfhojhpbgaa

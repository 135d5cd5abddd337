/- Are items the same, for every two; a sequence of items, a text. -/
import Derived.Test.YteafbfhojhpbgaaDerM
namespace Go.Proofs.Yteafbfhojhpbgaa
open Go.ChangeShapes Go.WideShapes Go.ChangeAt Go.RowKit Gs
set_option linter.unusedVariables false

set_option maxRecDepth 100000 in
set_option maxHeartbeats 8000000 in
theorem same_from (x y : It) (hx : x.wf) (hy : y.wf) (IH : ∀ a ∈ x.l, ∀ b ∈ y.l, SameOf a b) : SameOf x y := by
  intro Ab cb Al cl Ab' cb' Al' cl' w hi hi'
  have hxb := wf_b hx
  have hyb := wf_b hy
  have PE := Lib.hid (fun W (h : SI W W.heap.size .u8 Ab x.b) (h' : SI W W.heap.size .u8 Ab' y.b) => equal_any Ab Ab' x.b.length cb y.b.length cb' x.b y.b rfl rfl hxb hyb W h h')
  have hc := Nat.le_trans hi.ll hi.lm
  have PF := Lib.hid (fun W (h : IS W W.heap.size Al x.l) (h' : IS W W.heap.size Al' y.l) => equalI_any x.l y.l Al cl Al' cl' hc W h h' IH)
  have HI := Lib.hid hi
  have HI' := Lib.hid hi'
  have HS := Lib.hid (same_is x y)
  rw [HS.out]
  have D0 := Lib.hid (((Below.refl w.heap.size w).alloc (Nat.le_refl _) (.cells #[.int .i64 x.tag, .slice Ab x.b.length cb, .slice Al x.l.length cl] 25)).alloc (by simp) (.cells #[.int .i64 y.tag, .slice Ab' y.b.length cb', .slice Al' y.l.length cl'] 25))
  have K1 := Lib.hid ((Blk.new w 25 #[.int .i64 x.tag, .slice Ab x.b.length cb, .slice Al x.l.length cl]).alloc (.cells #[.int .i64 y.tag, .slice Ab' y.b.length cb', .slice Al' y.l.length cl'] 25))
  have K2 := Lib.hid (Blk.new_at (w.alloc (.cells #[.int .i64 x.tag, .slice Ab x.b.length cb, .slice Al x.l.length cl] 25)) 25 #[.int .i64 y.tag, .slice Ab' y.b.length cb', .slice Al' y.l.length cl'] (g := w.heap.size + 1) (by simp))
  clear hi hi' hx hy hxb hyb hc IH HS
  generalize sames x.l y.l = v2 at *
  generalize decide (x.b = y.b) = v1 at *
  generalize x.b.length = m1 at *
  generalize x.l.length = n1 at *
  generalize y.b.length = m2 at *
  generalize y.l.length = n2 at *
  have k0 := K1.out.cell 0
  have k1 := K1.out.cell 1
  have j0 := K2.out.cell 0
  have j1 := K2.out.cell 1
  by_cases ht : x.tag = y.tag
  · have q : (x.tag == y.tag) = true := by simpa using ht
    rw [decide_eq_true ht]
    clear ht
    go_enter Try.func20, Try.ntmps20
    go_wp2_with fail
    refine (PE.out _ (HI.out.on D0.out).bi (HI'.out.on D0.out).bi).mono ?_; rintro _ w2 ⟨rfl, b⟩
    have B2 := Lib.hid (below_on D0.out b)
    have K12 := Lib.hid (K1.out.below b K1.out.lt)
    have K22 := Lib.hid (K2.out.below b K2.out.lt)
    clear b k0 k1 j0 j1
    have k2 := K12.out.cell 2
    have j2 := K22.out.cell 2
    cases v1 with
    | false =>
      go_wp2_with fail
      go_ret
      exact ⟨rfl, B2.out⟩
    | true =>
      go_wp2_with fail
      refine (PF.out _ (HI.out.on B2.out).li (HI'.out.on B2.out).li).mono ?_; rintro _ w3 ⟨rfl, b⟩
      have B3 := Lib.hid (below_on B2.out b)
      clear b k2 j2
      go_wp2_with fail
      go_ret
      exact ⟨by simp, B3.out⟩
  · have q : (x.tag == y.tag) = false := by simpa using ht
    rw [decide_eq_false ht]
    clear ht
    go_enter Try.func20, Try.ntmps20
    go_wp2_with fail
    go_ret
    exact ⟨rfl, D0.out⟩
theorem same_any : ∀ x : It, x.wf → ∀ y : It, y.wf → SameOf x y := it_ind fun x ih hx y hy => same_from x y hx hy (fun a ha b hb => ih a ha (wf_l hx a ha) b (wf_l hy b hb))

theorem OwnIt.far {w : World} {B C : Nat} {v : Value} {l : List It} (h : OwnIt w B C v l) {p : Addr} (h1 : p.block < B) (h2 : p.block < C) (u : Value) : OwnIt (w.setCell p u) B C v l := by
  obtain ⟨vs, g1, g2⟩ := h
  refine ⟨vs, own_far g1 h1 u, g2.keep_more (fun q hq => World.cell?_setCell_other w p q u (fun e => ?_)) (fun b hb => ⟨hb.1, by simpa using hb.2.1, hb.2.2⟩)⟩
  have e2 := congrArg Addr.block e
  have := hq.1
  omega

set_option maxRecDepth 100000 in
set_option maxHeartbeats 4000000 in
theorem Seq_any (l : List It) (hw : wts l ≤ 100000000) (A : Option Addr) (n c : Nat) (hn : l.length = n) (w : World) (hs : IS w w.heap.size A l) :
    Calls Try.prog 21 #[.slice A n c] w fun e w' => (∃ v, e = .returned (.agg #[.int .i64 48, .slice none 0 0, v]) ∧ OwnIt w' w.heap.size w.heap.size v l) ∧ Below w.heap.size w w' := by
  subst hn
  have P := Lib.hid (copies_any (wts l) l (Nat.le_refl _) hw)
  unfold CopiesOf at P
  have HS := Lib.hid hs
  have D0 := Lib.hid ((Below.refl w.heap.size w).alloc (Nat.le_refl _) (.cells #[.int .i64 0, .slice none 0 0, .slice none 0 0] 25))
  have K0 := Lib.hid (Blk.new w 25 #[.int .i64 0, .slice none 0 0, .slice none 0 0])
  clear hs hw
  go_enter Try.func21, Try.ntmps21
  go_wp2_with fail
  refine (P.out _ _ _ (HS.out.on D0.out)).mono ?_; rintro _ w2 ⟨⟨v2, rfl, ho⟩, b⟩
  have HO := Lib.hid ho
  have B2 := Lib.hid (below_on D0.out b)
  have K2 := Lib.hid (K0.out.below b K0.out.lt)
  obtain ⟨A2, c2, rfl, _, _, _⟩ := ho.slice
  have hsz : (w.alloc (.cells #[.int .i64 0, .slice none 0 0, .slice none 0 0] 25)).heap.size = w.heap.size + 1 := by simp
  rw [hsz] at HO
  clear ho b hsz
  have c0 := K2.out.cell 0
  have c1 := K2.out.cell 1
  have c2' := K2.out.cell 2
  have f0 := K2.out.free 0
  have f1 := K2.out.free 1
  have f2 := K2.out.free 2
  go_wp2_with fail
  have h := (K2.out.set3 (x' := .int .i64 48) (y' := .slice none 0 0) (z' := .slice A2 l.length c2)).facts3.1
  refine bodyPost_ret (v := .agg #[.int .i64 48, .slice none 0 0, .slice A2 l.length c2]) (by simp [results, Try.results21, go_sem, h.1, h.2.1, h.2.2]) rfl ?_
  refine ⟨⟨_, rfl, ?_⟩, below_setR (below_setR (below_setR B2.out (Nat.le_refl _) _) (Nat.le_refl _) _) (Nat.le_refl _) _⟩
  exact (((HO.out.far (by show w.heap.size < _; omega) (by show w.heap.size < _; omega) _).far (by show w.heap.size < _; omega) (by show w.heap.size < _; omega) _).far (by show w.heap.size < _; omega) (by show w.heap.size < _; omega) _).less (by omega) (by omega)
end Go.Proofs.Yteafbfhojhpbgaa

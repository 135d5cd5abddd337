/- Contracts of budget: what was spent, as cells; slices.Clone. (Printed by tools/gen_budget_j.py.) -/
import Derived.Test.YtnjmhijfaijopaaBudgetIns
import Derived.Test.YtnjmhijfaijopaaBudgetI
namespace Go.Proofs.Ytnjmhijfaijopaa
open Go.ChangeShapes Go.WideShapes Go.ChangeAt Go.RowKit Gs
set_option linter.unusedVariables false
set_option linter.unusedSimpArgs false

theorem cellsQ_get {l : List Sp} {j : Nat} {u : Value} (h : (cellsQ l)[j]? = some u) : ∃ i, ∃ (hi : i < l.length), (j = i * 4 ∧ u = .int .i64 l[i].1) ∨ (j = i * 4 + 1 ∧ u = .int .i64 l[i].2.1) ∨ (j = i * 4 + 2 ∧ u = .int .i64 l[i].2.2.1) ∨ (j = i * 4 + 3 ∧ u = .int .i64 l[i].2.2.2) := by
  have hj : j < (cellsQ l).length := (List.getElem?_eq_some_iff.1 h).1
  rw [cellsQ_length] at hj
  have hi : j / 4 < l.length := by omega
  refine ⟨j / 4, hi, ?_⟩
  obtain ⟨c0, c1, c2, c3⟩ := cellsQ_at l (j / 4) hi
  rcases (by omega : j = j / 4 * 4 ∨ j = j / 4 * 4 + 1 ∨ j = j / 4 * 4 + 2 ∨ j = j / 4 * 4 + 3) with e | e | e | e
  · left; refine ⟨e, ?_⟩; rw [e, c0] at h; cases h; rfl
  · right; left; refine ⟨e, ?_⟩; rw [e, c1] at h; cases h; rfl
  · right; right; left; refine ⟨e, ?_⟩; rw [e, c2] at h; cases h; rfl
  · right; right; right; refine ⟨e, ?_⟩; rw [e, c3] at h; cases h; rfl
theorem add_off (ad : Addr) (i d : Nat) : (⟨(ad.add i).block, (ad.add i).off + d, none⟩ : Addr) = ⟨ad.block, ad.off + (i + d), none⟩ := by
  unfold Addr.add
  by_cases h : i = 0
  · simp [h]
  · simp [h, Nat.add_assoc]
theorem add_pos (ad : Addr) (i : Nat) (h : 0 < i) : ad.add i = ⟨ad.block, ad.off + i, none⟩ := by
  unfold Addr.add; rw [if_neg (by omega)]
theorem reads_qs {w : World} {B : Nat} {A : Option Addr} {l : List Sp} (h : QS w B A l) : Reads w B 4 A l.length (cellsQ l) := by
  refine ⟨cellsQ_length l, fun hpos => ?_⟩
  obtain ⟨ad, rfl, hb, _⟩ := h 0 hpos
  refine ⟨ad, rfl, hb, fun j u hu => ?_⟩
  obtain ⟨i, hi, hc⟩ := cellsQ_get hu
  obtain ⟨ad', e, _, c0, c1, c2, c3⟩ := h i hi
  cases e
  rw [add_off] at c1 c2 c3
  rcases hc with ⟨rfl, rfl⟩ | ⟨rfl, rfl⟩ | ⟨rfl, rfl⟩ | ⟨rfl, rfl⟩
  · exact c0
  · rw [add_pos _ _ (by omega)]; exact c1
  · rw [add_pos _ _ (by omega)]; exact c2
  · rw [add_pos _ _ (by omega)]; exact c3
/-- What a call has made: the slice value v owns what was spent, in blocks from B on. -/
def OwnQ (w : World) (B : Nat) (v : Value) (l : List Sp) : Prop := w.ownsRow B 45 4 v l.length (cellsQ l)
theorem own_q {w : World} {B n : Nat} {v : Value} {l : List Sp} {vs : List Value} (h : w.ownsRow B 45 4 v n vs) (hn : n = l.length) (hv : vs = cellsQ l) : OwnQ w B v l := by
  subst hn hv; exact h
theorem OwnQ.below {w w' : World} {B : Nat} {v : Value} {l : List Sp} (h : OwnQ w B v l) (hb : Below w.heap.size w w') : OwnQ w' B v l := own_below h hb
theorem own_nilQ (w : World) (B : Nat) : OwnQ w B (.slice none 0 0) [] := World.ownsRow_nil w B _ 4
theorem own_sliceQ {w : World} {B : Nat} {v : Value} {l : List Sp} (h : OwnQ w B v l) : ∃ A c, v = .slice A l.length c ∧ l.length ≤ c ∧ c ≤ maxLen ∧ QS w w.heap.size A l ∧ ∀ ad, A = some ad → B ≤ ad.block := by
  have hge := own_ge h
  rcases h.2 with ⟨rfl, h0⟩ | ⟨g, cap, cur, rfl, hb, hg, hn, hc, _, _⟩
  · rw [h0]
    exact ⟨none, 0, rfl, Nat.le_refl _, by unfold maxLen; omega, fun j hj => by omega, fun ad e => by cases e⟩
  · refine ⟨some ⟨g, 0, none⟩, cap, rfl, hn, hc, fun j hj => ⟨_, rfl, (Array.getElem?_eq_some_iff.1 hg).1, ?_, ?_, ?_, ?_⟩, fun ad e => by cases e; exact hge _ rfl⟩
    · exact h.cells (g := g) rfl _ _ (cellsQ_at l j hj).1
    all_goals rw [add_off]; show w.cell? ⟨g, 0 + (j * 4 + _), none⟩ = _; rw [Nat.zero_add, ← add_atN]
    · exact h.cells (g := g) rfl _ _ (cellsQ_at l j hj).2.1
    · exact h.cells (g := g) rfl _ _ (cellsQ_at l j hj).2.2.1
    · exact h.cells (g := g) rfl _ _ (cellsQ_at l j hj).2.2.2
/-- The row that a slice owns, as a block. -/
theorem own_blkQ {w : World} {B : Nat} {v : Value} {l : List Sp} (h : OwnQ w B v l) (h0 : 0 < l.length) : ∃ g cap cur, v = .slice (some ⟨g, 0, none⟩) l.length cap ∧ B ≤ g ∧ Blk w g 45 cur ∧ l.length ≤ cap ∧ cap ≤ maxLen ∧ cur.size = cap * 4 ∧ cur.toList.take (l.length * 4) = cellsQ l := by
  rcases h.2 with ⟨rfl, h1⟩ | ⟨g, cap, cur, rfl, hb, hg, hn, hc, hs, ht⟩
  · omega
  · exact ⟨g, cap, cur, rfl, hb, hg, hn, hc, hs, ht⟩
theorem cellsQ_set : ∀ (l : List Sp) (k : Nat) (x : Sp), k < l.length → cellsQ (l.set k x) = ((((cellsQ l).set (k * 4) (.int .i64 x.1)).set (k * 4 + 1) (.int .i64 x.2.1)).set (k * 4 + 2) (.int .i64 x.2.2.1)).set (k * 4 + 3) (.int .i64 x.2.2.2)
  | p :: l, 0, x, _ => by simp [cellsQ_cons, List.set]
  | p :: l, k + 1, x, h => by
    have ih := cellsQ_set l k x (by simpa using h)
    rw [List.set_cons_succ, cellsQ_cons, cellsQ_cons, show (k + 1) * 4 = k * 4 + 1 + 1 + 1 + 1 by omega, ih]
    simp only [show ∀ d, k * 4 + 1 + 1 + 1 + 1 + d = (k * 4 + d) + 1 + 1 + 1 + 1 by omega, List.set_cons_succ]
theorem own_noneQ (w : World) {B : Nat} (hB : B ≤ w.heap.size) : (w.alloc (.cells #[] 45)).ownsRow B 45 4 (.slice (some ⟨w.heap.size, 0, none⟩) 0 0) 0 [] :=
  ⟨rfl, .inr ⟨_, 0, #[], rfl, hB, World.alloc_heap_new w _, Nat.le_refl _, by unfold maxLen; omega, rfl, rfl⟩⟩
theorem Clone_anyQ (A : Option Addr) (n c : Nat) (cs : List Value) (hl : n ≤ 1048576) (w : World) (hs : Reads w w.heap.size 4 A n cs) (h1 : ∀ u ∈ cs, u.oneCell' = true) :
    Calls Try.prog 34 #[.slice A n c] w fun e w' => ∃ v', e = .returned v' ∧ w'.ownsRow w.heap.size 45 4 v' n cs ∧ Below w.heap.size w w' := by
  have HS := Lib.hid hs
  have H1 := Lib.hid h1
  have q22 : ∀ (w : World) (a : Option Addr) (n c n' c' : Nat), (binOp .eql 22 (.slice a n c) (.slice none n' c')).run Try.prog w = .ok (.bool a.isNone) w := fun w a n c n' c' => Lib.run_eql_slice_nil w _ _ a n c n' c' Try.underlying22
  obtain ⟨i0, hi, hz0, hz1, hz2⟩ := info_parts Try.info45
  have HI := Lib.hid (And.intro hi (And.intro hz0 (And.intro hz1 hz2)))
  clear hi hz0 hz1 hz2 hs h1
  cases A with
  | none =>
    obtain rfl : n = 0 := by
      rcases Nat.eq_zero_or_pos n with h | h
      · exact h
      · obtain ⟨ad, e, _⟩ := HS.out.2 h; cases e
    have hcs : cs = [] := List.length_eq_zero_iff.1 (by have := HS.out.1; omega)
    have HC := Lib.hid hcs
    clear hcs
    go_enter Try.func34, Try.ntmps34
    go_wp2_with fail
    go_ret
    exact ⟨_, rfl, by rw [HC.out]; exact World.ownsRow_nil w w.heap.size _ 4, Below.refl _ _⟩
  | some ad =>
    have HR := Lib.hid (HS.out.alloc (Nat.le_refl _) (.cells #[] 45))
    have HO := Lib.hid (own_noneQ w (Nat.le_refl w.heap.size))
    go_enter Try.func34, Try.ntmps34
    go_wp2_with (at_builtin; first | (refine wpList_append_any _ (by rfl) _ _ 22 (by rfl) w.heap.size 45 i0 (.agg #[.int .i64 0, .int .i64 0, .int .i64 0, .int .i64 0]) 4 32 Try.underlying22 HI.out.1 HI.out.2.1 HI.out.2.2.1 HI.out.2.2.2 (by rfl) (by decide) _ 0 [] (by rfl) HO.out _ _ n _ _ (by rfl) HR.out H1.out (by unfold maxLen; omega) (by omega) (by simp) ?_; intro v4 w4 ho4 hg4 hw4; have HO4 := Lib.hid ho4; have HG4 := Lib.hid hg4; clear ho4 hg4 hw4) | fail)
    go_wp2_with fail
    go_ret
    exact ⟨_, rfl, by have := HO4.out; rwa [Nat.zero_add, List.nil_append] at this, ((Below.refl _ w).alloc (Nat.le_refl _) _).grown HG4.out (by simp) (by intro k hk; simp [Value.ownBlock] at hk; omega)⟩
end Go.Proofs.Ytnjmhijfaijopaa

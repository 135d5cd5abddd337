/- Rows of items that a call has made: what they hold, one more behind; copies of bytes and of items. -/
import Derived.Test.YteafbfhojhpbgaaDerJ
namespace Go.Proofs.Yteafbfhojhpbgaa
open Go.ChangeShapes Go.WideShapes Go.ChangeAt Go.RowKit Gs
set_option linter.unusedVariables false

theorem Try.info25 : (Try.prog.info? 25).map (fun i => (i.zero, i.size, i.bytes)) = some (some (.agg #[.int .i64 0, .slice none 0 0, .slice none 0 0]), 3, 56) := by kernel_rfl

/-- Those values are those items, in blocks of S. -/
def ItVs (w : World) (S : Nat → Prop) : List It → List Value → Prop
  | [], vs => vs = []
  | x :: r, vs => ∃ vb vl vs', vs = .int .i64 x.tag :: vb :: vl :: vs' ∧ ItR w S x vb vl ∧ ItVs w S r vs'
theorem ItVs.keep_more {w w' : World} {S S' : Nat → Prop} (hk : ∀ p : Addr, S p.block → w'.cell? p = w.cell? p) (hS : ∀ b, S b → S' b) : ∀ {l : List It} {vs : List Value}, ItVs w S l vs → ItVs w' S' l vs
  | [], _, h => h
  | x :: r, _, ⟨vb, vl, vs', e, h, t⟩ => ⟨vb, vl, vs', e, itR_keep_more hk hS x vb vl h, t.keep_more hk hS⟩
theorem ItVs.push {w : World} {S : Nat → Prop} {x : It} {vb vl : Value} (hx : ItR w S x vb vl) : ∀ {l : List It} {vs : List Value}, ItVs w S l vs → ItVs w S (l ++ [x]) (vs ++ [.int .i64 x.tag, vb, vl])
  | [], _, h => by
    have h : _ = [] := h
    subst h
    exact ⟨vb, vl, [], rfl, hx, rfl⟩
  | y :: r, _, ⟨vb', vl', vs', e, h, t⟩ => ⟨vb', vl', vs' ++ [.int .i64 x.tag, vb, vl], by rw [e]; rfl, h, ItVs.push hx t⟩
theorem ItVs.at_ {w : World} {S : Nat → Prop} : ∀ {l : List It} {vs : List Value}, ItVs w S l vs → ∀ j (h : j < l.length), ∃ vb vl, vs[j * 3]? = some (.int .i64 l[j].tag) ∧ vs[j * 3 + 1]? = some vb ∧ vs[j * 3 + 2]? = some vl ∧ ItR w S l[j] vb vl
  | x :: r, _, ⟨vb, vl, vs', e, h, t⟩, 0, _ => by subst e; exact ⟨vb, vl, rfl, rfl, rfl, h⟩
  | x :: r, _, ⟨vb, vl, vs', e, h, t⟩, j + 1, hj => by
    obtain ⟨vb', vl', h0, h1, h2, h3⟩ := t.at_ j (by simpa using hj)
    subst e
    refine ⟨vb', vl', ?_, ?_, ?_, h3⟩
    · rw [show (j + 1) * 3 = j * 3 + 1 + 1 + 1 by omega]; simpa using h0
    · rw [show (j + 1) * 3 + 1 = j * 3 + 1 + 1 + 1 + 1 by omega]; simpa using h1
    · rw [show (j + 1) * 3 + 2 = j * 3 + 2 + 1 + 1 + 1 by omega]; simpa using h2
theorem ItVs.one {w : World} {S : Nat → Prop} : ∀ {l : List It} {vs : List Value}, ItVs w S l vs → ∀ u ∈ vs, u.oneCell' = true
  | [], _, h, u, hu => by
    have h : _ = [] := h
    subst h; simp at hu
  | x :: r, _, ⟨vb, vl, vs', e, h, t⟩, u, hu => by
    subst e
    obtain ⟨⟨A, c, e1, _⟩, A', c', e2, _⟩ := itR_is.1 h
    rcases List.mem_cons.1 hu with rfl | hu
    · rfl
    rcases List.mem_cons.1 hu with rfl | hu
    · rw [e1]; rfl
    rcases List.mem_cons.1 hu with rfl | hu
    · rw [e2]; rfl
    · exact t.one u hu

/-- What a call has made: the slice value v owns a row of those items, in blocks from B on; what they hold lies in blocks from C on. -/
def OwnIt (w : World) (B C : Nat) (v : Value) (l : List It) : Prop :=
  ∃ vs, w.ownsRow B 25 3 v l.length vs ∧ ItVs w (fun b => C ≤ b ∧ b < w.heap.size ∧ v.ownBlock ≠ some b) l vs
theorem OwnIt.below {w w' : World} {B C : Nat} {v : Value} {l : List It} (h : OwnIt w B C v l) (hb : Below w.heap.size w w') : OwnIt w' B C v l := by
  obtain ⟨vs, h1, h2⟩ := h
  exact ⟨vs, own_below h1 hb, h2.keep_more (fun p hp => hb.cell hp.2.1) (fun b hp => ⟨hp.1, Nat.lt_of_lt_of_le hp.2.1 hb.size, hp.2.2⟩)⟩
theorem OwnIt.nil (w : World) (B C : Nat) : OwnIt w B C (.slice none 0 0) [] := ⟨[], ⟨rfl, .inl ⟨rfl, rfl⟩⟩, rfl⟩
theorem OwnIt.of_empty {w : World} {B C : Nat} {v : Value} (h : w.ownsRow B 25 3 v 0 []) : OwnIt w B C v [] := ⟨[], h, rfl⟩
theorem OwnIt.less {w : World} {B B' C C' : Nat} {v : Value} {l : List It} (h : OwnIt w B C v l) (hB : B' ≤ B) (hC : C' ≤ C) : OwnIt w B' C' v l := by
  obtain ⟨vs, h1, h2⟩ := h
  exact ⟨vs, own_less h1 hB, h2.keep_more (fun _ _ => rfl) (fun b hb => ⟨by omega, hb.2.1, hb.2.2⟩)⟩
theorem cell_at_g {g : Nat} {j : Nat} : (Addr.mk g 0 none).add j = ⟨g, j, none⟩ := by
  unfold Addr.add
  split
  · rename_i h; subst h; rfl
  · simp
theorem OwnIt.slice {w : World} {B C : Nat} {v : Value} {l : List It} (h : OwnIt w B C v l) : ∃ A c, v = .slice A l.length c ∧ l.length ≤ c ∧ c ≤ maxLen ∧ (∀ j (hj : j < l.length), ItAt w (fun b => (C ≤ b ∨ B ≤ b) ∧ b < w.heap.size) A j l[j]) := by
  obtain ⟨vs, h1, h2⟩ := h
  rcases h1.2 with ⟨rfl, h0⟩ | ⟨g, cap, cur, rfl, hb, hg, hn, hc, _, _⟩
  · obtain rfl : l = [] := List.length_eq_zero_iff.1 h0
    exact ⟨none, 0, rfl, Nat.le_refl _, by unfold maxLen; omega, fun j hj => absurd hj (Nat.not_lt_zero j)⟩
  · refine ⟨some ⟨g, 0, none⟩, cap, rfl, hn, hc, fun j hj => ?_⟩
    obtain ⟨vb, vl, c0, c1, c2, hr⟩ := h2.at_ j hj
    have hgs := (Array.getElem?_eq_some_iff.1 hg).1
    refine ⟨_, rfl, ⟨.inr hb, hgs⟩, vb, vl, ?_, ?_, ?_, hr.more fun b hb => ⟨.inl hb.1, hb.2.1⟩⟩
    · exact h1.cells (g := g) rfl (j * 3) _ c0
    · rw [cell_at_g, ← cell_at_g]; exact h1.cells (g := g) rfl (j * 3 + 1) _ c1
    · rw [cell_at_g, ← cell_at_g]; exact h1.cells (g := g) rfl (j * 3 + 2) _ c2
theorem OwnIt.is {w : World} {B C : Nat} {v : Value} {l : List It} (h : OwnIt w B C v l) : ∃ A c, v = .slice A l.length c ∧ l.length ≤ c ∧ c ≤ maxLen ∧ IS w w.heap.size A l := by
  obtain ⟨A, c, e, h1, h2, h3⟩ := h.slice
  exact ⟨A, c, e, h1, h2, fun j hj => (h3 j hj).keep_more (fun _ _ => rfl) (fun b hb => hb.2)⟩

theorem OwnIt.push {w w' : World} {B C : Nat} {v v' : Value} {l : List It} {x : It} {vb vl : Value} {vs : List Value}
    (h1 : w.ownsRow B 25 3 v l.length vs) (h2 : ItVs w (fun b => C ≤ b ∧ b < w.heap.size ∧ v.ownBlock ≠ some b) l vs)
    (hx : ItR w (fun b => C ≤ b ∧ b < w.heap.size ∧ v.ownBlock ≠ some b) x vb vl) {o : Obj}
    (g1 : w'.ownsRow B 25 3 v' (l.length + 1) (vs ++ [.int .i64 x.tag, vb, vl])) (g2 : (w.alloc o).grownBy w' v.ownBlock) (g3 : v'.ownBlock = v.ownBlock ∨ v'.ownBlock = some (w.alloc o).heap.size) : OwnIt w' B C v' (l ++ [x]) := by
  refine ⟨vs ++ [.int .i64 x.tag, vb, vl], by simpa using g1, ?_⟩
  refine (ItVs.push hx h2).keep_more (fun p hp => ?_) (fun b hb => ⟨hb.1, ?_, ?_⟩)
  · have hlt : p.block < (w.alloc o).heap.size := by simp; omega
    rw [g2.cell_far p hlt (fun e => hp.2.2 e.symm)]
    exact World.cell?_alloc_lt w o p hp.2.1
  · have := g2.size
    simp at this
    omega
  · intro e
    rcases g3 with h | h
    · exact hb.2.2 (h ▸ e)
    · rw [h] at e
      have := Option.some.inj e
      simp at this
      omega
/-- One item behind others. -/
theorem wp_append_it {w : World} {o : Oper} {a : Act} {K : Act → World → Prop} {Q : Exit → Act → World → Prop} (s x : Operand)
    (ho : o.op = .call { callee := .builtin .append, args := #[s, x], argTypes := #[23, 23] })
    (B C : Nat) (v : Value) (l : List It) (y : It) (vb vl : Value) (hs : a.eval s = v) (hown : OwnIt w B C v l) (hy : ItR w (fun b => C ≤ b ∧ b < w.heap.size ∧ v.ownBlock ≠ some b) y vb vl)
    (g c : Nat) (hg : g = w.heap.size) (hx : a.eval x = .slice (some ⟨g, 0, none⟩) 1 c) (hl : l.length ≤ 1000000000) (hB : B ≤ w.heap.size)
    (h : ∀ v' w', OwnIt w' B C v' (l ++ [y]) → Below B w w' → (∀ p : Addr, p.block < w.heap.size → v.ownBlock ≠ some p.block → w'.cell? p = w.cell? p) → K (a.put o.dst v') w') : o.wp Try.prog a (w.alloc (.cells #[.int .i64 y.tag, vb, vl] 25)) K Q := by
  subst hg
  obtain ⟨vs, h1, h2⟩ := hown
  obtain ⟨i0, hi, hz0, hz1, hz2⟩ := info_parts Try.info25
  have hr : Reads (w.alloc (.cells #[.int .i64 y.tag, vb, vl] 25)) (w.heap.size + 1) 3 (some ⟨w.heap.size, 0, none⟩) 1 [.int .i64 y.tag, vb, vl] := by
    refine ⟨rfl, fun _ => ⟨_, rfl, Nat.lt_succ_self _, fun j u hu => ?_⟩⟩
    rw [cell_at_g]
    have := (Blk.new w 25 #[.int .i64 y.tag, vb, vl]).cell j
    rw [this]
    simpa using hu
  have hone : ∀ u ∈ [Value.int .i64 y.tag, vb, vl], u.oneCell' = true := ItVs.one (l := [y]) (w := w) (S := fun b => C ≤ b ∧ b < w.heap.size ∧ v.ownBlock ≠ some b) ⟨vb, vl, [], rfl, hy, rfl⟩
  refine wp_append_any (P := Try.prog) (w.alloc (.cells #[.int .i64 y.tag, vb, vl] 25)) s x 23 ho B 25 i0 (.agg #[.int .i64 0, .slice none 0 0, .slice none 0 0]) 3 56 Try.underlying23 hi hz0 hz1 hz2 rfl (by decide) v l.length vs hs (h1.alloc _) (w.heap.size + 1) (some ⟨w.heap.size, 0, none⟩) 1 c _ hx hr hone (by unfold maxLen; omega) (by omega) (by simp; omega) ?_
  intro v' w' g1 g2 g3
  exact h v' w' (OwnIt.push h1 h2 hy g1 g2 g3) (((Below.refl B w).alloc hB _).grown g2 (by simp; omega) (fun k e => own_ge h1 k e)) (fun p hp hne => (g2.cell_far p (by simp; omega) (fun e => hne e.symm)).trans (World.cell?_alloc_lt w _ p hp))
theorem wpList_append_it {w : World} {ops : Array Oper} {rest : List Oper} {o : Oper} {a : Act} {Q : Exit → Act → World → Prop} (hgd : o.guard = none) (s x : Operand)
    (ho : o.op = .call { callee := .builtin .append, args := #[s, x], argTypes := #[23, 23] })
    (B C : Nat) (v : Value) (l : List It) (y : It) (vb vl : Value) (hs : a.eval s = v) (hown : OwnIt w B C v l) (hy : ItR w (fun b => C ≤ b ∧ b < w.heap.size ∧ v.ownBlock ≠ some b) y vb vl)
    (g c : Nat) (hg : g = w.heap.size) (hx : a.eval x = .slice (some ⟨g, 0, none⟩) 1 c) (hl : l.length ≤ 1000000000) (hB : B ≤ w.heap.size)
    (h : ∀ v' w', OwnIt w' B C v' (l ++ [y]) → Below B w w' → (∀ p : Addr, p.block < w.heap.size → v.ownBlock ≠ some p.block → w'.cell? p = w.cell? p) → wpList Try.prog ops Q rest (a.put o.dst v') w') : wpList Try.prog ops Q (o :: rest) a (w.alloc (.cells #[.int .i64 y.tag, vb, vl] 25)) :=
  wpList_plain hgd fun _ hK => wp_append_it s x ho B C v l y vb vl hs hown hy g c hg hx hl hB fun v' w' h2 h3 h4 => hK _ _ (h v' w' h2 h3 h4)
theorem step_append_it {w : World} {ops : Array Oper} {o : Oper} {a : Act} {K : Act → World → Prop} {Q : Exit → Act → World → Prop} {E : Prop} (hgd : o.guard = none) (s x : Operand)
    (ho : o.op = .call { callee := .builtin .append, args := #[s, x], argTypes := #[23, 23] })
    (B C : Nat) (v : Value) (l : List It) (y : It) (vb vl : Value) (hs : a.eval s = v) (hown : OwnIt w B C v l) (hy : ItR w (fun b => C ≤ b ∧ b < w.heap.size ∧ v.ownBlock ≠ some b) y vb vl)
    (g c : Nat) (hg : g = w.heap.size) (hx : a.eval x = .slice (some ⟨g, 0, none⟩) 1 c) (hl : l.length ≤ 1000000000) (hB : B ≤ w.heap.size)
    (h : ∀ v' w', OwnIt w' B C v' (l ++ [y]) → Below B w w' → (∀ p : Addr, p.block < w.heap.size → v.ownBlock ≠ some p.block → w'.cell? p = w.cell? p) → K (a.put o.dst v') w') :
    if Region.wanted o (yielded ops a.tmps) = true then Oper.wp Try.prog o a (w.alloc (.cells #[.int .i64 y.tag, vb, vl] 25)) K Q else E := by
  have hw : Region.wanted o (yielded ops a.tmps) = true := by simp [Region.wanted, hgd]
  rw [if_pos hw]
  exact wp_append_it s x ho B C v l y vb vl hs hown hy g c hg hx hl hB h

theorem eq_nil (c : Nat) (w : World) : (binOp .eql 22 (.slice none 0 c) (.slice none 0 0)).run Try.prog w = .ok (.bool true) w := by kernel_rfl
theorem eq_some (ad : Addr) (n c : Nat) (w : World) : (binOp .eql 22 (.slice (some ad) n c) (.slice none 0 0)).run Try.prog w = .ok (.bool false) w := by kernel_rfl
set_option maxHeartbeats 2000000 in
theorem clone_any (A : Option Addr) (n c : Nat) (b : List Int) (hn : b.length = n) (hl : n ≤ 1000000000) (w : World) (hs : SI w w.heap.size .u8 A b) :
    Calls Try.prog 54 #[.slice A n c] w fun e w' => (∃ v, e = .returned v ∧ OwnB w' w.heap.size v b) ∧ Below w.heap.size w w' := by
  have D0 := Lib.hid (Below.refl w.heap.size w)
  rcases A with _ | ad
  · have h0 : b = [] := by
      rcases b with _ | ⟨x, r⟩
      · rfl
      · obtain ⟨ad, e, _⟩ := hs 0 (by simp)
        cases e
    subst h0
    obtain rfl : n = 0 := by simpa using hn.symm
    clear hs hn hl
    go_enter Try.func54, Try.ntmps54
    have q := eq_nil c w
    go_wp2_with fail
    go_ret
    exact ⟨⟨_, rfl, own_nilB _ _⟩, D0.out⟩
  · have HS := Lib.hid hs
    have HN := Lib.hid hn
    have OE := Lib.hid (own_litB w [] (Nat.le_refl _) rfl (by simp))
    have BE := Lib.hid (D0.out.alloc (Nat.le_refl _) (.cells #[] 5))
    clear hs hn
    have q := eq_some ad n c w
    go_enter Try.func54, Try.ntmps54
    go_wp2_with (at_builtin; refine wpList_append_b rfl _ _ rfl w.heap.size _ [] rfl OE.out _ _ _ _ b HN.out rfl (HS.out.below BE.out) (by simp; omega) (by simp) ?_; intro v1 w1 o1 b1 g1 n1; have HO1 := Lib.hid o1; have HB1 := Lib.hid b1; clear o1 b1 g1 n1)
    go_ret
    exact ⟨⟨_, rfl, by simpa using HO1.out⟩, BE.out.trans HB1.out⟩
end Go.Proofs.Yteafbfhojhpbgaa

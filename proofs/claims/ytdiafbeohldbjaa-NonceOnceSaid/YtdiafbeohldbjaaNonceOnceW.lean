/- What holds between two steps: the fence in its box, and what was told in memory of the law's own. -/
import Derived.Test.YtdiafbeohldbjaaNonceOnceMath
import Derived.Test.YtdiafbeohldbjaaNonceFr
import Derived.Test.YtdiafbeohldbjaaNonceOnceOpen
namespace Go.Proofs.Ytdiafbeohldbjaa
open Go.ChangeShapes Go.WideShapes Go.ChangeAt Go.RowKit Gs
set_option linter.unusedVariables false
set_option linter.unusedSimpArgs false

structure OnceW (W : World) (gf : Nat) (wr : World) (nx now : Int) (F T : List (Int × Int)) (v : Value) (B : Option Addr) (m d : Nat) : Prop where
  inv : OnceI nx F T now
  len : F.length = m
  cap : m ≤ d ∧ d ≤ maxLen
  box : Blk wr gf 24 #[.int .i64 nx, .slice B m d]
  ns : NS wr wr.heap.size B F
  own : OwnN wr (gf + 1) v T
  off : ∀ g, v.ownBlock = some g → Off g B F
  bel : Below W.heap.size W wr
theorem OnceW.on {W w w' : World} {gf m d : Nat} {nx now : Int} {F T : List (Int × Int)} {v : Value} {B : Option Addr} (h : OnceW W gf w nx now F T v B m d) (hb : Below w.heap.size w w') : OnceW W gf w' nx now F T v B m d :=
  ⟨h.inv, h.len, h.cap, h.box.below hb h.box.lt, h.ns.on hb, own_below h.own hb, h.off, below_on h.bel hb⟩
theorem OnceW.drewN {W w : World} {gf m d : Nat} {nx now : Int} {F T : List (Int × Int)} {v : Value} {B : Option Addr} (h : OnceW W gf w nx now F T v B m d) (q : Nat) : OnceW W gf (w.drewN q) nx now F T v B m d :=
  ⟨h.inv, h.len, h.cap, h.box, h.ns, h.own, h.off, below_drewN h.bel q⟩
theorem OnceW.later {W w : World} {gf m d : Nat} {nx now now' : Int} {F T : List (Int × Int)} {v : Value} {B : Option Addr} (h : OnceW W gf w nx now F T v B m d) (k : now ≤ now') : OnceW W gf w nx now' F T v B m d :=
  ⟨h.inv.later k, h.len, h.cap, h.box, h.ns, h.own, h.off, h.bel⟩
theorem OnceW.m64 {W w : World} {gf m d : Nat} {nx now : Int} {F T : List (Int × Int)} {v : Value} {B : Option Addr} (h : OnceW W gf w nx now F T v B m d) : m ≤ 64 := by rw [← h.len]; exact (chk_ok.1 h.inv.chk).2.2
/-- Another fence is put into the box. -/
theorem OnceW.put {W w : World} {gf m d m' d' : Nat} {nx now nx' : Int} {F T F' : List (Int × Int)} {v : Value} {B B' : Option Addr} (h : OnceW W gf w nx now F T v B m d) (hgf : W.heap.size ≤ gf) (hi : OnceI nx' F' T now) (hl : F'.length = m') (hc : m' ≤ d' ∧ d' ≤ maxLen) (hns : NS w w.heap.size B' F') (hof : ∀ g, v.ownBlock = some g → Off g B' F') (hog : Off gf B' F') :
    OnceW W gf ((w.setCell ⟨gf, 0, none⟩ (.int .i64 nx')).setCell ⟨gf, 1, none⟩ (.slice B' m' d')) nx' now F' T v B' m' d' :=
  ⟨hi, hl, hc, h.box.set2, by have := (hns.set (o := 0) hog (.int .i64 nx')).set (o := 1) hog (.slice B' m' d'); simpa [World.setCell] using this, (h.own.set (by omega) _).set (by omega) _, hof, below_setR (below_setR h.bel hgf _) hgf _⟩
theorem NS.grown {w w' : World} {A : Option Addr} {l : List (Int × Int)} {row : Option Nat} (h : NS w w.heap.size A l) (hg : w.grownBy w' row) (hr : ∀ g, row = some g → Off g A l) : NS w' w'.heap.size A l := fun j hj => by
  obtain ⟨ad, rfl, hb, c0, c1⟩ := h j hj
  have hne : some ad.block ≠ row := fun e => by
    rcases hr _ e.symm with rfl | ⟨ad', e', hne⟩
    · simp at hj
    · cases e'; exact hne rfl
  have hblk := hg.block ad.block hb hne
  exact ⟨ad, rfl, Nat.lt_of_lt_of_le hb hg.size, (World.cell?_of_block (a := ad.add (j * 2)) (by rw [block_of_add]; exact hblk)).trans c0, (World.cell?_of_block (a := ⟨(ad.add (j * 2)).block, (ad.add (j * 2)).off + 1, none⟩) (by show w'.heap[(ad.add (j * 2)).block]? = _; rw [block_of_add]; exact hblk)).trans c1⟩
theorem cellsN_set : ∀ (l : List (Int × Int)) (k : Nat) (h : k < l.length) (y : Int), cellsN (l.set k (l[k].1, y)) = (cellsN l).set (k * 2 + 1) (.int .i64 y)
  | p :: l, 0, _, y => by simp [cellsN_cons]
  | p :: l, k + 1, h, y => by
    have ih := cellsN_set l k (by simpa using h) y
    rw [List.set_cons_succ, cellsN_cons, cellsN_cons, show (k + 1) * 2 + 1 = (k * 2 + 1) + 1 + 1 by omega, List.set_cons_succ, List.set_cons_succ]
    simp only [List.getElem_cons_succ]
    rw [ih]
theorem own_storeN {w : World} {B g c n : Nat} {l : List (Int × Int)} (h : OwnN w B (.slice (some ⟨g, 0, none⟩) n c) l) (hn : l.length = n) (k : Nat) (hk : k < l.length) (y : Int) : OwnN (w.setCell ⟨g, k * 2 + 1, none⟩ (.int .i64 y)) B (.slice (some ⟨g, 0, none⟩) n c) (l.set k (l[k].1, y)) := by
  subst hn
  unfold OwnN at *
  rw [List.length_set, cellsN_set l k hk]
  exact (h.stored (k * 2 + 1) _).1
theorem own_atN {w : World} {B g c n : Nat} {l : List (Int × Int)} (h : OwnN w B (.slice (some ⟨g, 0, none⟩) n c) l) (hn : l.length = n) (k : Nat) (hk : k < l.length) : w.cell? ⟨g, k * 2, none⟩ = some (.int .i64 l[k].1) ∧ w.cell? ⟨g, k * 2 + 1, none⟩ = some (.int .i64 l[k].2) ∧ w.frozen? ⟨g, k * 2 + 1, none⟩ = false := by
  subst hn
  have hl := cellsN_length l
  have h2 := cellsN_at l k hk
  refine ⟨?_, ?_, World.ownsRow.frozenAt h _⟩
  · rw [World.ownsRow.cellAt h (k * 2) (by omega)]; exact h2.1
  · rw [World.ownsRow.cellAt h (k * 2 + 1) (by omega)]; exact h2.2
theorem own_head {w : World} {B t c : Nat} {A : Option Addr} {l : List (Int × Int)} (h : OwnN w B (.slice A t c) l) (ht : 0 < t) : ∃ g, A = some ⟨g, 0, none⟩ ∧ B ≤ g ∧ g < w.heap.size := by
  rcases h.2 with ⟨hv, h0⟩ | ⟨g, cap, cur, hv, hb, hg, hn, hc, _, _⟩
  · injection hv with _ e _; omega
  · injection hv with e _ _
    exact ⟨g, e, hb, (Array.getElem?_eq_some_iff.1 hg).1⟩
/-- What was told, k of it marked. -/
def mkF (n : Int) (T : List (Int × Int)) (k : Nat) : List (Int × Int) := (T.take k).map (markF n) ++ T.drop k
theorem mk_len {n : Int} {T : List (Int × Int)} (k : Nat) : (mkF n T k).length = T.length := by unfold mkF; simp; omega
theorem mk_at {n : Int} {T : List (Int × Int)} (k : Nat) (h : k < T.length) (h' : k < (mkF n T k).length) : (mkF n T k)[k] = T[k] := by
  have e : ((T.take k).map (markF n)).length = k := by simp; omega
  have h1 : (mkF n T k)[k]? = some T[k] := by
    unfold mkF
    rw [List.getElem?_append_right (by omega), e, Nat.sub_self, List.getElem?_drop]
    simp [h]
  exact (List.getElem?_eq_some_iff.1 h1).2
theorem mk_hit {n : Int} {T : List (Int × Int)} (k : Nat) (h : k < T.length) (h' : k < (mkF n T k).length) (hn : T[k].1 = n) : mkF n T (k + 1) = (mkF n T k).set k ((mkF n T k)[k].1, -1) := by
  have e := mk_at (n := n) k h h'
  have h2 : mkF n T (k + 1) = (mkF n T k).set k (markF n T[k]) := by unfold mkF; exact mark_take T k h
  rw [h2, e, show markF n T[k] = (T[k].1, -1) by unfold markF; rw [if_pos hn]]
theorem mk_miss {n : Int} {T : List (Int × Int)} (k : Nat) (h : k < T.length) (h' : k < (mkF n T k).length) (hn : T[k].1 ≠ n) : mkF n T (k + 1) = mkF n T k := by
  have e := mk_at (n := n) k h h'
  have h2 : mkF n T (k + 1) = (mkF n T k).set k (markF n T[k]) := by unfold mkF; exact mark_take T k h
  rw [h2, show markF n T[k] = T[k] by unfold markF; rw [if_neg hn], ← e, List.set_getElem_self]
theorem mk_all {n : Int} {T : List (Int × Int)} : mkF n T T.length = T.map (markF n) := by unfold mkF; simp
end Go.Proofs.Ytdiafbeohldbjaa

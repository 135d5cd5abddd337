/- Items in memory: what stands where; what leaves it as it is. -/
import Derived.Test.YteafbfhojhpbgaaDerMath
namespace Go.Proofs.Yteafbfhojhpbgaa
open Go.ChangeShapes Go.WideShapes Go.ChangeAt Go.RowKit Gs
set_option linter.unusedVariables false

/-- The slice '.slice A xs.length c' holds the bytes xs, in blocks of S. -/
def BI (w : World) (S : Nat → Prop) (A : Option Addr) (xs : List Int) : Prop :=
  ∀ j, j < xs.length → ∃ ad, A = some ad ∧ S ad.block ∧ w.cell? (ad.add j) = some (.int .u8 (xs[j]?.getD 0))
theorem BI.si {w : World} {B : Nat} {A : Option Addr} {xs : List Int} (h : BI w (· < B) A xs) : SI w B .u8 A xs := h
theorem SI.bi {w : World} {B : Nat} {A : Option Addr} {xs : List Int} (h : SI w B .u8 A xs) : BI w (· < B) A xs := h
theorem BI.keep {w w' : World} {S : Nat → Prop} {A : Option Addr} {xs : List Int} (h : BI w S A xs) (hk : ∀ p : Addr, S p.block → w'.cell? p = w.cell? p) : BI w' S A xs := fun j hj => by
  obtain ⟨ad, e, hb, hc⟩ := h j hj
  exact ⟨ad, e, hb, by rw [hk _ (by rw [block_of_add]; exact hb)]; exact hc⟩
theorem BI.more {w : World} {S S' : Nat → Prop} {A : Option Addr} {xs : List Int} (h : BI w S A xs) (hS : ∀ b, S b → S' b) : BI w S' A xs := fun j hj => by
  obtain ⟨ad, e, hb, hc⟩ := h j hj
  exact ⟨ad, e, hS _ hb, hc⟩

mutual
/-- The struct '{tag, vb, vl}' is that item, in blocks of S. -/
def ItR (w : World) (S : Nat → Prop) : It → Value → Value → Prop
  | .mk _ b l, vb, vl => (∃ A c, vb = .slice A b.length c ∧ b.length ≤ c ∧ c ≤ maxLen ∧ BI w S A b) ∧ (∃ A c, vl = .slice A l.length c ∧ l.length ≤ c ∧ c ≤ maxLen ∧ ItsR w S A 0 l)
/-- From place i on those items stand there. -/
def ItsR (w : World) (S : Nat → Prop) (A : Option Addr) : Nat → List It → Prop
  | _, [] => True
  | i, x :: r => (∃ ad, A = some ad ∧ S ad.block ∧ ∃ vb vl, w.cell? (ad.add (i * 3)) = some (.int .i64 x.tag) ∧ w.cell? ⟨(ad.add (i * 3)).block, (ad.add (i * 3)).off + 1, none⟩ = some vb ∧ w.cell? ⟨(ad.add (i * 3)).block, (ad.add (i * 3)).off + 2, none⟩ = some vl ∧ ItR w S x vb vl) ∧ ItsR w S A (i + 1) r
end
theorem itR_is {w : World} {S : Nat → Prop} {x : It} {vb vl : Value} : ItR w S x vb vl ↔ (∃ A c, vb = .slice A x.b.length c ∧ x.b.length ≤ c ∧ c ≤ maxLen ∧ BI w S A x.b) ∧ (∃ A c, vl = .slice A x.l.length c ∧ x.l.length ≤ c ∧ c ≤ maxLen ∧ ItsR w S A 0 x.l) := by
  cases x; rw [ItR]; exact Iff.rfl
/-- One of a row of items. -/
def ItAt (w : World) (S : Nat → Prop) (A : Option Addr) (i : Nat) (x : It) : Prop :=
  ∃ ad, A = some ad ∧ S ad.block ∧ ∃ vb vl, w.cell? (ad.add (i * 3)) = some (.int .i64 x.tag) ∧ w.cell? ⟨(ad.add (i * 3)).block, (ad.add (i * 3)).off + 1, none⟩ = some vb ∧ w.cell? ⟨(ad.add (i * 3)).block, (ad.add (i * 3)).off + 2, none⟩ = some vl ∧ ItR w S x vb vl
theorem its_iff {w : World} {S : Nat → Prop} {A : Option Addr} : ∀ {l : List It} {i : Nat}, ItsR w S A i l ↔ ∀ j (h : j < l.length), ItAt w S A (i + j) l[j]
  | [], i => by simp [ItsR]
  | x :: r, i => by
    rw [ItsR, its_iff]
    constructor
    · rintro ⟨h0, h1⟩ j hj
      rcases j with _ | j
      · exact h0
      · have := h1 j (by simpa using hj)
        rw [show i + (j + 1) = i + 1 + j by omega]
        exact this
    · intro h
      refine ⟨h 0 (by simp), fun j hj => ?_⟩
      have := h (j + 1) (by simpa using hj)
      rw [show i + (j + 1) = i + 1 + j by omega] at this
      exact this
theorem its_at {w : World} {S : Nat → Prop} {A : Option Addr} {l : List It} (h : ItsR w S A 0 l) (j : Nat) (hj : j < l.length) : ItAt w S A j l[j] := by
  have := its_iff.1 h j hj
  rwa [Nat.zero_add] at this
theorem its_of {w : World} {S : Nat → Prop} {A : Option Addr} {l : List It} (h : ∀ j (h : j < l.length), ItAt w S A j l[j]) : ItsR w S A 0 l :=
  its_iff.2 fun j hj => by rw [Nat.zero_add]; exact h j hj

theorem itR_keep_more {w w' : World} {S S' : Nat → Prop} (hk : ∀ p : Addr, S p.block → w'.cell? p = w.cell? p) (hS : ∀ b, S b → S' b) : ∀ x vb vl, ItR w S x vb vl → ItR w' S' x vb vl :=
  it_ind fun x ih vb vl h => by
    obtain ⟨⟨A, c, e1, h1, h2, h3⟩, A', c', e2, h4, h5, h6⟩ := itR_is.1 h
    refine itR_is.2 ⟨⟨A, c, e1, h1, h2, (h3.keep hk).more hS⟩, A', c', e2, h4, h5, its_of fun j hj => ?_⟩
    obtain ⟨ad, e, hb, vb', vl', c0, c1, c2, hr⟩ := its_at h6 j hj
    refine ⟨ad, e, hS _ hb, vb', vl', ?_, ?_, ?_, ih _ (List.getElem_mem hj) _ _ hr⟩
    · rw [hk _ (by rw [block_of_add]; exact hb)]; exact c0
    · rw [hk _ (by show S (ad.add (j * 3)).block; rw [block_of_add]; exact hb)]; exact c1
    · rw [hk _ (by show S (ad.add (j * 3)).block; rw [block_of_add]; exact hb)]; exact c2
theorem ItR.keep {w w' : World} {S : Nat → Prop} {x : It} {vb vl : Value} (h : ItR w S x vb vl) (hk : ∀ p : Addr, S p.block → w'.cell? p = w.cell? p) : ItR w' S x vb vl := itR_keep_more hk (fun _ h => h) x vb vl h
theorem ItR.more {w : World} {S S' : Nat → Prop} {x : It} {vb vl : Value} (h : ItR w S x vb vl) (hS : ∀ b, S b → S' b) : ItR w S' x vb vl := itR_keep_more (fun _ _ => rfl) hS x vb vl h
theorem ItAt.keep_more {w w' : World} {S S' : Nat → Prop} {A : Option Addr} {i : Nat} {x : It} (h : ItAt w S A i x) (hk : ∀ p : Addr, S p.block → w'.cell? p = w.cell? p) (hS : ∀ b, S b → S' b) : ItAt w' S' A i x := by
  obtain ⟨ad, e, hb, vb, vl, c0, c1, c2, hr⟩ := h
  refine ⟨ad, e, hS _ hb, vb, vl, ?_, ?_, ?_, itR_keep_more hk hS _ _ _ hr⟩
  · rw [hk _ (by rw [block_of_add]; exact hb)]; exact c0
  · rw [hk _ (by show S (ad.add (i * 3)).block; rw [block_of_add]; exact hb)]; exact c1
  · rw [hk _ (by show S (ad.add (i * 3)).block; rw [block_of_add]; exact hb)]; exact c2

/-- A slice of items: '.slice A l.length c', in blocks below B. -/
def IS (w : World) (B : Nat) (A : Option Addr) (l : List It) : Prop := ∀ j (h : j < l.length), ItAt w (· < B) A j l[j]
theorem IS.below {w w' : World} {B : Nat} {A : Option Addr} {l : List It} (h : IS w B A l) (hb : Below B w w') : IS w' B A l := fun j hj => (h j hj).keep_more (fun p hp => hb.cell hp) fun _ h => h
theorem IS.on {w w' : World} {A : Option Addr} {l : List It} (h : IS w w.heap.size A l) (hb : Below w.heap.size w w') : IS w' w'.heap.size A l := fun j hj => (h j hj).keep_more (fun p hp => hb.cell hp) fun b h => by have := hb.size; omega
/-- An item by its two slices: below B. -/
structure IR (w : World) (B : Nat) (x : It) (Ab : Option Addr) (cb : Nat) (Al : Option Addr) (cl : Nat) : Prop where
  bl : x.b.length ≤ cb
  bm : cb ≤ maxLen
  bi : SI w B .u8 Ab x.b
  ll : x.l.length ≤ cl
  lm : cl ≤ maxLen
  li : IS w B Al x.l
theorem IR.of {w : World} {B : Nat} {x : It} {vb vl : Value} (h : ItR w (· < B) x vb vl) : ∃ Ab cb Al cl, vb = .slice Ab x.b.length cb ∧ vl = .slice Al x.l.length cl ∧ IR w B x Ab cb Al cl := by
  obtain ⟨⟨A, c, e1, h1, h2, h3⟩, A', c', e2, h4, h5, h6⟩ := itR_is.1 h
  exact ⟨A, c, A', c', e1, e2, h1, h2, h3.si, h4, h5, fun j hj => its_at h6 j hj⟩
theorem IR.to {w : World} {B : Nat} {x : It} {Ab Al : Option Addr} {cb cl : Nat} (h : IR w B x Ab cb Al cl) : ItR w (· < B) x (.slice Ab x.b.length cb) (.slice Al x.l.length cl) :=
  itR_is.2 ⟨⟨Ab, cb, rfl, h.bl, h.bm, h.bi.bi⟩, Al, cl, rfl, h.ll, h.lm, its_of h.li⟩
theorem IR.below {w w' : World} {B : Nat} {x : It} {Ab Al : Option Addr} {cb cl : Nat} (h : IR w B x Ab cb Al cl) (hb : Below B w w') : IR w' B x Ab cb Al cl := ⟨h.bl, h.bm, h.bi.below hb, h.ll, h.lm, h.li.below hb⟩
theorem IR.on {w w' : World} {x : It} {Ab Al : Option Addr} {cb cl : Nat} (h : IR w w.heap.size x Ab cb Al cl) (hb : Below w.heap.size w w') : IR w' w'.heap.size x Ab cb Al cl := ⟨h.bl, h.bm, h.bi.on hb, h.ll, h.lm, h.li.on hb⟩
/-- One of a row of items, by its two slices. -/
theorem IS.at_ {w : World} {B : Nat} {A : Option Addr} {l : List It} (h : IS w B A l) (j : Nat) (hj : j < l.length) : ∃ ad, A = some ad ∧ ad.block < B ∧ ∃ Ab cb Al cl, w.cell? (ad.add (j * 3)) = some (.int .i64 l[j].tag) ∧ w.cell? ⟨(ad.add (j * 3)).block, (ad.add (j * 3)).off + 1, none⟩ = some (.slice Ab l[j].b.length cb) ∧ w.cell? ⟨(ad.add (j * 3)).block, (ad.add (j * 3)).off + 2, none⟩ = some (.slice Al l[j].l.length cl) ∧ IR w B l[j] Ab cb Al cl := by
  obtain ⟨ad, e, hb, vb, vl, c0, c1, c2, hr⟩ := h j hj
  obtain ⟨Ab, cb, Al, cl, rfl, rfl, hi⟩ := IR.of hr
  exact ⟨ad, e, hb, Ab, cb, Al, cl, c0, c1, c2, hi⟩
/-- The struct's value. -/
def itV (x : It) (Ab : Option Addr) (cb : Nat) (Al : Option Addr) (cl : Nat) : Value := .agg #[.int .i64 x.tag, .slice Ab x.b.length cb, .slice Al x.l.length cl]
end Go.Proofs.Yteafbfhojhpbgaa

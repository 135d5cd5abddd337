/- Nonces in a slice: what it holds; a row of them that a call has made. -/
import Derived.Test.YtdiafbeohldbjaaFieldLib
import Derived.Test.YtdiafbeohldbjaaRows
import Derived.Test.YtdiafbeohldbjaaNonceMath
import Derived.RegionTactic
import Derived.Deep.RegionHeld3
import Derived.Deep.RegionHeldLaw
import Derived.Deep.DrawnRows
import Derived.Deep.RegionWith
import Derived.Laws.EntriesVeiled
namespace Go.Proofs.Ytdiafbeohldbjaa
open Go.ChangeShapes Go.WideShapes Go.ChangeAt Go.RowKit Gs
set_option linter.unusedVariables false

theorem add_atN (g j : Nat) : (Addr.mk g 0 none).add j = ⟨g, j, none⟩ := by
  unfold Addr.add
  split
  · rename_i hj; subst hj; rfl
  · simp
theorem below_on {w0 w w' : World} (h : Below w0.heap.size w0 w) (k : Below w.heap.size w w') : Below w0.heap.size w0 w' := h.trans (k.mono h.size)
/-- The slice '.slice A l.length c' holds the pairs l, and lies below block B. -/
def NS (w : World) (B : Nat) (A : Option Addr) (l : List (Int × Int)) : Prop :=
  ∀ j (h : j < l.length), ∃ ad, A = some ad ∧ ad.block < B ∧ w.cell? (ad.add (j * 2)) = some (.int .i64 l[j].1) ∧ w.cell? ⟨(ad.add (j * 2)).block, (ad.add (j * 2)).off + 1, none⟩ = some (.int .i64 l[j].2)
theorem NS.below {w w' : World} {B : Nat} {A : Option Addr} {l : List (Int × Int)} (h : NS w B A l) (hb : Below B w w') : NS w' B A l := fun j hj => by
  obtain ⟨ad, e, hB, c0, c1⟩ := h j hj
  exact ⟨ad, e, hB, (hb.cell (by rw [block_of_add]; exact hB)).trans c0, (hb.cell (p := ⟨(ad.add (j * 2)).block, (ad.add (j * 2)).off + 1, none⟩) (by show (ad.add (j * 2)).block < B; rw [block_of_add]; exact hB)).trans c1⟩
theorem NS.more {w : World} {B B' : Nat} {A : Option Addr} {l : List (Int × Int)} (h : NS w B A l) (hB : B ≤ B') : NS w B' A l := fun j hj => by
  obtain ⟨ad, e, hb, c⟩ := h j hj
  exact ⟨ad, e, by omega, c⟩
theorem NS.on {w w' : World} {A : Option Addr} {l : List (Int × Int)} (h : NS w w.heap.size A l) (hb : Below w.heap.size w w') : NS w' w'.heap.size A l := (h.below hb).more hb.size
theorem NS.nil (w : World) (B : Nat) (A : Option Addr) : NS w B A [] := fun j hj => by simp at hj

/-- The cells of pairs. -/
def cellsN (l : List (Int × Int)) : List Value := l.flatMap fun p => [.int .i64 p.1, .int .i64 p.2]
theorem cellsN_nil : cellsN [] = [] := rfl
theorem cellsN_cons (p : Int × Int) (l : List (Int × Int)) : cellsN (p :: l) = .int .i64 p.1 :: .int .i64 p.2 :: cellsN l := rfl
theorem cellsN_append (a b : List (Int × Int)) : cellsN (a ++ b) = cellsN a ++ cellsN b := by simp [cellsN]
theorem cellsN_length : ∀ l : List (Int × Int), (cellsN l).length = l.length * 2
  | [] => rfl
  | p :: l => by rw [cellsN_cons]; simp [cellsN_length l]; omega
theorem cellsN_at : ∀ (l : List (Int × Int)) (j : Nat) (h : j < l.length), (cellsN l)[j * 2]? = some (.int .i64 l[j].1) ∧ (cellsN l)[j * 2 + 1]? = some (.int .i64 l[j].2)
  | p :: l, 0, _ => by simp [cellsN_cons]
  | p :: l, j + 1, h => by
    have ih := cellsN_at l j (by simpa using h)
    rw [cellsN_cons, show (j + 1) * 2 = j * 2 + 1 + 1 by omega]
    simpa using ih
theorem cellsN_one (l : List (Int × Int)) : ∀ u ∈ cellsN l, u.oneCell' = true := by
  intro u hu
  obtain ⟨p, _, hp⟩ := List.mem_flatMap.1 hu
  simp at hp
  rcases hp with rfl | rfl <;> rfl
theorem cellsN_take : ∀ (l : List (Int × Int)) (k : Nat), (cellsN l).take (k * 2) = cellsN (l.take k)
  | _, 0 => by simp [cellsN_nil]
  | [], _ => by simp [cellsN_nil]
  | p :: l, k + 1 => by rw [cellsN_cons, show (k + 1) * 2 = k * 2 + 1 + 1 by omega, List.take_succ_cons, List.take_succ_cons, cellsN_take l k, List.take_succ_cons, cellsN_cons]
theorem cellsN_get {l : List (Int × Int)} {j : Nat} {u : Value} (h : (cellsN l)[j]? = some u) : ∃ i, ∃ (hi : i < l.length), (j = i * 2 ∧ u = .int .i64 l[i].1) ∨ (j = i * 2 + 1 ∧ u = .int .i64 l[i].2) := by
  have hj : j < (cellsN l).length := (List.getElem?_eq_some_iff.1 h).1
  rw [cellsN_length] at hj
  have hi : j / 2 < l.length := by omega
  refine ⟨j / 2, hi, ?_⟩
  have hc := cellsN_at l (j / 2) hi
  rcases Nat.mod_two_eq_zero_or_one j with e | e
  · have e' : j = j / 2 * 2 := by omega
    left; refine ⟨e', ?_⟩
    rw [e', hc.1] at h; cases h; rfl
  · have e' : j = j / 2 * 2 + 1 := by omega
    right; refine ⟨e', ?_⟩
    rw [e', hc.2] at h; cases h; rfl
/-- What a call has made: the slice value v owns the pairs l, in blocks from B on. -/
def OwnN (w : World) (B : Nat) (v : Value) (l : List (Int × Int)) : Prop := w.ownsRow B 41 2 v l.length (cellsN l)
theorem own_n {w : World} {B n : Nat} {v : Value} {l : List (Int × Int)} {vs : List Value} (h : w.ownsRow B 41 2 v n vs) (hn : n = l.length) (hv : vs = cellsN l) : OwnN w B v l := by
  subst hn hv; exact h
theorem own_sliceN {w : World} {B : Nat} {v : Value} {l : List (Int × Int)} (h : OwnN w B v l) : ∃ A c, v = .slice A l.length c ∧ l.length ≤ c ∧ c ≤ maxLen ∧ NS w w.heap.size A l ∧ ∀ ad, A = some ad → B ≤ ad.block := by
  have hge := own_ge h
  rcases h.2 with ⟨rfl, h0⟩ | ⟨g, cap, cur, rfl, hb, hg, hn, hc, _, _⟩
  · rw [h0]
    exact ⟨none, 0, rfl, Nat.le_refl _, by unfold maxLen; omega, fun j hj => by omega, fun ad e => by cases e⟩
  · refine ⟨some ⟨g, 0, none⟩, cap, rfl, hn, hc, fun j hj => ⟨_, rfl, (Array.getElem?_eq_some_iff.1 hg).1, ?_, ?_⟩, fun ad e => by cases e; exact hge _ rfl⟩
    · exact h.cells (g := g) rfl _ _ (cellsN_at l j hj).1
    · have := h.cells (g := g) rfl _ _ (cellsN_at l j hj).2
      rw [add_atN] at this ⊢
      exact this
theorem Try.info41 : (Try.prog.info? 41).map (fun i => (i.zero, i.size, i.bytes)) = some (some (.agg #[.int .i64 0, .int .i64 0]), 2, 16) := by kernel_rfl
theorem own_nilN (w : World) (B : Nat) : OwnN w B (.slice none 0 0) [] := World.ownsRow_nil w B _ 2
theorem own_noneN (w : World) {B : Nat} (hB : B ≤ w.heap.size) : OwnN (w.alloc (.cells #[] 41)) B (.slice (some ⟨w.heap.size, 0, none⟩) 0 0) [] :=
  ⟨rfl, .inr ⟨_, 0, #[], rfl, hB, World.alloc_heap_new w _, Nat.le_refl _, by unfold maxLen; omega, rfl, rfl⟩⟩
theorem OwnN.below {w w' : World} {B : Nat} {v : Value} {l : List (Int × Int)} (h : OwnN w B v l) (hb : Below w.heap.size w w') : OwnN w' B v l := own_below h hb
/-- Pairs in a slice are read. -/
theorem reads_ns {w : World} {B : Nat} {A : Option Addr} {l : List (Int × Int)} (h : NS w B A l) : Reads w B 2 A l.length (cellsN l) := by
  refine ⟨cellsN_length l, fun hpos => ?_⟩
  have h0 : 0 < l.length := hpos
  obtain ⟨ad, rfl, hb, _⟩ := h 0 h0
  refine ⟨ad, rfl, hb, fun j u hu => ?_⟩
  obtain ⟨i, hi, hc⟩ := cellsN_get hu
  obtain ⟨ad', e, _, c0, c1⟩ := h i hi
  cases e
  rcases hc with ⟨rfl, rfl⟩ | ⟨rfl, rfl⟩
  · exact c0
  · have e1 : (⟨(ad.add (i * 2)).block, (ad.add (i * 2)).off + 1, none⟩ : Addr) = ad.add (i * 2 + 1) := by
      unfold Addr.add
      by_cases h : i * 2 = 0
      · simp [h]
      · simp [h, Nat.add_assoc]
    rw [← e1]; exact c1
theorem reads_newN {w : World} {g : Nat} {t : TypeId} {l : List (Int × Int)} (h : Blk w g t (cellsN l).toArray) (n : Nat) (hn : l.length = n) : Reads w w.heap.size 2 (some ⟨g, 0, none⟩) n (cellsN l) := by
  subst hn
  refine ⟨cellsN_length l, fun _ => ⟨_, rfl, h.lt, fun j u hu => ?_⟩⟩
  rw [add_atN, h.cell j]
  simpa using hu
end Go.Proofs.Ytdiafbeohldbjaa

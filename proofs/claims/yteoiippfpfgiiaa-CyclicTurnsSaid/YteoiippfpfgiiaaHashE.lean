/- Contracts of the hash: numbers as bytes. -/
import Derived.Test.YteoiippfpfgiiaaHashD
import Derived.Test.YteoiippfpfgiiaaHashBytes
import Derived.RegionTactic
import Derived.Deep.RegionHeld3
import Derived.Deep.DrawnRows
namespace Go.Proofs.Yteoiippfpfgiiaa
open Go.ChangeShapes Go.WideShapes Go.ChangeAt Go.RowKit Gs
set_option linter.unusedVariables false

theorem Try.info5 : (Try.prog.info? 5).map (fun i => (i.zero, i.size, i.bytes)) = some (some (.int .u8 0), 1, 1) := by kernel_rfl

/-- What a call has made: the slice value v owns the bytes xs, in blocks from B on. -/
def OwnB (w : World) (B : Nat) (v : Value) (xs : List Int) : Prop := w.ownsRow B 5 1 v xs.length (xs.map (Value.int .u8))
theorem Blk.grown {w w' : World} {g : Nat} {t : TypeId} {cs : Array Value} {row : Option Nat} (h : Blk w g t cs) (hg : w.grownBy w' row) (hr : some g ≠ row) : Blk w' g t cs := (hg.block g h.lt hr).trans h
theorem own_b {w : World} {B n : Nat} {v : Value} {xs : List Int} {vs : List Value} (h : w.ownsRow B 5 1 v n vs) (hn : n = xs.length) (hv : vs = xs.map (Value.int .u8)) : OwnB w B v xs := by
  subst hn hv; exact h
theorem own_sliceB {w : World} {B : Nat} {v : Value} {xs : List Int} (h : OwnB w B v xs) : ∃ A c, v = .slice A xs.length c ∧ xs.length ≤ c ∧ c ≤ maxLen ∧ SI w w.heap.size .u8 A xs ∧ ∀ ad, A = some ad → B ≤ ad.block := by
  have hge := own_ge h
  rcases h.2 with ⟨rfl, h0⟩ | ⟨g, cap, cur, rfl, hb, hg, hn, hc, _, _⟩
  · rw [h0]
    exact ⟨none, 0, rfl, Nat.le_refl _, by unfold maxLen; omega, fun j hj => by omega, fun ad e => by cases e⟩
  · refine ⟨some ⟨g, 0, none⟩, cap, rfl, hn, hc, fun j hj => ⟨_, rfl, (Array.getElem?_eq_some_iff.1 hg).1, ?_⟩, fun ad e => by cases e; exact hge _ rfl⟩
    refine h.cells (g := g) rfl j _ ?_
    rw [List.getElem?_map, List.getElem?_eq_getElem hj]; rfl

end Go.Proofs.Yteoiippfpfgiiaa

/- General pieces: bytes that a call has made, strings of bytes, a function that is entered. -/
import Derived.Test.YteafbfhojhpbgaaFieldLib
import Derived.Test.YteafbfhojhpbgaaRows
import Derived.RegionTactic
import Derived.Deep.RegionHeld3
import Derived.Deep.RegionHeldLaw
import Derived.Deep.DrawnRows
import Derived.Deep.RegionWith
import Derived.Laws.BytesArg
import Derived.Laws.EntriesVeiled
namespace Go.Proofs.Yteafbfhojhpbgaa
open Go.ChangeShapes Go.WideShapes Go.ChangeAt Go.RowKit Gs
set_option linter.unusedVariables false

theorem Try.info5 : (Try.prog.info? 5).map (fun i => (i.zero, i.size, i.bytes)) = some (some (.int .u8 0), 1, 1) := by kernel_rfl

/-- What a call has made: the slice value v owns the bytes xs, in blocks from B on. -/
def OwnB (w : World) (B : Nat) (v : Value) (xs : List Int) : Prop := w.ownsRow B 5 1 v xs.length (xs.map (Value.int .u8))
theorem Blk.grown {w w' : World} {g : Nat} {t : TypeId} {cs : Array Value} {row : Option Nat} (h : Blk w g t cs) (hg : w.grownBy w' row) (hr : some g ≠ row) : Blk w' g t cs := (hg.block g h.lt hr).trans h
theorem own_b {w : World} {B n : Nat} {v : Value} {xs : List Int} {vs : List Value} (h : w.ownsRow B 5 1 v n vs) (hn : n = xs.length) (hv : vs = xs.map (Value.int .u8)) : OwnB w B v xs := by
  subst hn hv; exact h
theorem own_sliceB {w : World} {B : Nat} {v : Value} {xs : List Int} (h : OwnB w B v xs) : ∃ A c, v = .slice A xs.length c ∧ xs.length ≤ c ∧ c ≤ maxLen ∧ SI w w.heap.size .u8 A xs ∧ ∀ ad, A = some ad → B ≤ ad.block := by
  have hge := own_ge h
  rcases h.2 with ⟨rfl, h0⟩ | ⟨g, cap, cur, rfl, hb, hg, hn, hc, _, _⟩
  · rw [h0]
    exact ⟨none, 0, rfl, Nat.le_refl _, by unfold maxLen; omega, fun j hj => by omega, fun ad e => by cases e⟩
  · refine ⟨some ⟨g, 0, none⟩, cap, rfl, hn, hc, fun j hj => ⟨_, rfl, (Array.getElem?_eq_some_iff.1 hg).1, ?_⟩, fun ad e => by cases e; exact hge _ rfl⟩
    refine h.cells (g := g) rfl j _ ?_
    rw [List.getElem?_map, List.getElem?_eq_getElem hj]; rfl
theorem si_at {w : World} {B : Nat} {k : IntKind} {A : Option Addr} {xs : List Int} (h : SI w B k A xs) (j : Nat) (hj : j < xs.length) : ∃ ad, A = some ad ∧ ad.block < B ∧ w.cell? (ad.add j) = some (.int k xs[j]) := by
  obtain ⟨ad, e, hb, hc⟩ := h j hj
  rw [List.getElem?_eq_getElem hj] at hc
  exact ⟨ad, e, hb, hc⟩
theorem below_on {w0 w w' : World} (h : Below w0.heap.size w0 w) (k : Below w.heap.size w w') : Below w0.heap.size w0 w' := h.trans (k.mono h.size)
theorem below_setR {B : Nat} {w w' : World} (h : Below B w w') {g o : Nat} (hg : B ≤ g) (v : Value) : Below B w (w'.setCell ⟨g, o, none⟩ v) := h.setCell hg v
/-- A call of that function enters its body. -/
theorem runs_in {f : FuncId} {fn : Func} {c : Code} (hf : Try.prog.funcs[f]? = some fn) (hname : (fn.name == "runtime.NumGoroutine") = false) (hb : fn.body = some c) (args : Array Value) (w : World) : (callFunc f args).run Try.prog w = .ok (.enter f args) w := by
  have h1 : fn.name ≠ "runtime.NumGoroutine" := by simpa using hname
  simp [callFunc, hf, h1, hb]
theorem si_new {w : World} {g : Nat} {t : TypeId} {fr : Nat × Nat} {xs : List Int} (h : w.heap[g]? = some (.cells (xs.map (Value.int .u8)).toArray t fr)) : SI w w.heap.size .u8 (some ⟨g, 0, none⟩) xs := fun j hj => by
  refine ⟨_, rfl, (Array.getElem?_eq_some_iff.1 h).1, ?_⟩
  have e : (Addr.mk g 0 none).add j = ⟨g, j, none⟩ := by
    unfold Addr.add
    split
    · rename_i hj; subst hj; rfl
    · simp
  rw [e]
  simp [World.cell?, h, List.getElem?_eq_getElem hj]
theorem si_lit (w : World) (t : TypeId) (fr : Nat × Nat) (xs : List Int) : SI (w.alloc (.cells (xs.map (Value.int .u8)).toArray t fr)) (w.alloc (.cells (xs.map (Value.int .u8)).toArray t fr)).heap.size .u8 (some ⟨w.heap.size, 0, none⟩) xs :=
  si_new (World.alloc_heap_new w _)
end Go.Proofs.Yteafbfhojhpbgaa

/- Contracts of the hash: the hash of bytes. -/
import Derived.Test.YteoiippfpfgiiaaHashB
namespace Go.Proofs.Yteoiippfpfgiiaa
open Go.ChangeShapes Go.WideShapes Go.ChangeAt Go.RowKit Go.Shelf Gs
set_option linter.unusedVariables false
attribute [local go_sem] Oper.semAt_some

theorem wpIn_named {F : Fence} {n : Nat} {P : Program} {c : Code} {K : Exit → Act → World → Prop} {a : Act} {W : World} (Q : World → Prop) (hQ : Q W) (h : ∀ w2, Q w2 → Code.wpIn F n P c K a w2) : Code.wpIn F n P c K a W := h W hQ

theorem callsIn_named {F : Fence} {n : Nat} {P : Program} {f : FuncId} {args : Array Value} {R : Ending → World → Prop} {W : World} (Q : World → Prop) (hQ : Q W) (h : ∀ w2, Q w2 → CallsIn F n P f args w2 R) : CallsIn F n P f args W R := h W hQ

theorem blk_own {β : Type} (B : Nat) (t : TypeId) (f : β → Array Value) : Own (fun s W => Blk W B t (f s)) := fun s X Y row hs hg hrow =>
  (hg.block B hs.lt (fun e' => by obtain ⟨o, ho, hc⟩ := hrow B e'.symm; rw [show X.heap[B]? = _ from hs] at ho; cases ho; cases hc)).trans hs
theorem si_own {β : Type} (B : Nat) (k : IntKind) (A : Option Addr) (xs : List Int) : Own (fun (_ : β) W => SI W B k A xs) := fun s X Y row hs hg hrow j hj => by
  obtain ⟨ad, e, hb, hc⟩ := hs j hj
  exact ⟨ad, e, hb, cell_kept hc hg hrow⟩
theorem keeps_below {W W' : World} (h : Below W.heap.size W W') : KeepsOthers W W' := ⟨h.size, fun k o hk _ => (h.block k (Array.getElem?_eq_some_iff.1 hk).1).trans hk⟩
theorem kb_below {W W' : World} {n₀ Bs : Nat} (h : Below W.heap.size W W') (hn : n₀ ≤ W.heap.size) (hb : Bs < W.heap.size) : KB n₀ Bs W W' := ⟨h.mono hn, h.block Bs hb⟩
theorem kb_set {W W' : World} {n₀ Bs : Nat} (h : KB n₀ Bs W W') {a : Addr} (hn : n₀ ≤ a.block) (hb : Bs ≠ a.block) (v : Value) : KB n₀ Bs W (W'.setCell a v) := ⟨h.1.setCell hn v, (Below.heap_setCell W' a v Bs hb).trans h.2⟩

theorem Blk.put {w : World} {g : Nat} {t : TypeId} {cs : Array Value} (h : Blk w g t cs) {l : Nat} (hl : g ≠ l) (o : Obj) : Blk (w.putObj l o) g t cs := ((grownBy_putObj' w l o).block g h.lt (fun e => hl (by cases e; rfl))).trans h

theorem own_slice2 {w : World} {B : Nat} {v : Value} {xs : List Int} (h : OwnU w B v xs) : ∃ A c, v = .slice A xs.length c ∧ xs.length ≤ c ∧ c ≤ maxLen ∧ SI w w.heap.size .u64 A xs ∧ ∀ ad, A = some ad → B ≤ ad.block := by
  obtain ⟨A, c, rfl, h1, h2, h3⟩ := own_slice h
  refine ⟨A, c, rfl, h1, h2, h3, fun ad e => ?_⟩
  subst e
  exact own_ge h _ rfl
theorem SI.set {w : World} {B : Nat} {k : IntKind} {A : Option Addr} {xs : List Int} (h : SI w B k A xs) {p : Addr} (hp : ∀ ad, A = some ad → ad.block ≠ p.block) (v : Value) : SI (w.setCell p v) B k A xs := fun j hj => by
  obtain ⟨ad, e, hb, hc⟩ := h j hj
  exact ⟨ad, e, hb, cell_far hc (by rw [block_of_add]; exact hp ad e)⟩

end Go.Proofs.Yteoiippfpfgiiaa

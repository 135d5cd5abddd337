/- The plain answer of the elements that bytes are. -/
import Derived.Test.YteoiippfpfgiiaaFieldA
import Derived.Maps.AppendAt
import Derived.Laws.OwnMore
namespace Go.Proofs.Yteoiippfpfgiiaa
open Go.ChangeShapes Go.WideShapes Go.ChangeAt Go.RowKit Gs
set_option linter.unusedVariables false

theorem block_of_add (a : Addr) (n : Nat) : (a.add n).block = a.block := by unfold Addr.add; split <;> rfl
theorem SI.keep {w w' : World} {B : Nat} {k : IntKind} {A : Option Addr} {xs : List Int} (h : SI w B k A xs) (hk : ∀ p : Addr, p.block < B → w'.cell? p = w.cell? p) : SI w' B k A xs := fun j hj => by
  obtain ⟨ad, e, hb, hc⟩ := h j hj
  exact ⟨ad, e, hb, (hk _ (by rw [block_of_add]; exact hb)).trans hc⟩
theorem SI.more {w : World} {B B' : Nat} {k : IntKind} {A : Option Addr} {xs : List Int} (h : SI w B k A xs) (hB : B ≤ B') : SI w B' k A xs := fun j hj => by
  obtain ⟨ad, e, hb, hc⟩ := h j hj
  exact ⟨ad, e, by omega, hc⟩
theorem SI.below {w w' : World} {B : Nat} {k : IntKind} {A : Option Addr} {xs : List Int} (h : SI w B k A xs) (hb : Below B w w') : SI w' B k A xs := h.keep fun _ hp => hb.cell hp

theorem Try.info22 : (Try.prog.info? 22).map (fun i => (i.zero, i.size, i.bytes)) = some (some (.int .u64 0), 1, 8) := by kernel_rfl

/-- What a call has made: the slice value v owns the numbers xs, in blocks from B on. -/
def OwnU (w : World) (B : Nat) (v : Value) (xs : List Int) : Prop := w.ownsRow B 22 1 v xs.length (xs.map (Value.int .u64))

theorem own_step {w : World} {B n : Nat} {v : Value} {xs : List Int} {j : Nat} {vs : List Value} (h : w.ownsRow B 22 1 v n vs) (hn : n = (fofTo xs j).length + 1) (hv : vs = (fofTo xs j).map (Value.int .u64) ++ [.int .u64 (elm xs j)]) : OwnU w B v (fofTo xs (j + 1)) := by
  subst hn hv
  unfold OwnU
  rw [fofTo_succ, List.length_append, List.map_append]
  exact h
theorem below_step {w wr w1 : World} {v : Value} {n : Nat} {vs : List Value} {o : Obj} (hB : Below w.heap.size w wr) (ho : wr.ownsRow w.heap.size 22 1 v n vs) (hg : (wr.alloc o).grownBy w1 v.ownBlock) : Below w.heap.size w w1 := by
  refine (hB.alloc hB.size o).grown hg (by have := hB.size; simp; omega) ?_
  intro k hk
  rcases ho.2 with ⟨rfl, _⟩ | ⟨g, cap, cur, rfl, hb, _⟩
  · simp [Value.ownBlock] at hk
  · simp [Value.ownBlock] at hk; omega

end Go.Proofs.Yteoiippfpfgiiaa

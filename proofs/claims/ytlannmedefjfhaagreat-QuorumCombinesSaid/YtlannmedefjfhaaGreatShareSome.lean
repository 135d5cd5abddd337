/- The law's own choice of shares: so many, from a place on, round, perhaps the other way. -/
import Derived.Test.YtlannmedefjfhaaGreatShareLive
namespace Go.Proofs.YtlannmedefjfhaaGreat
open Go.ChangeShapes Go.WideShapes Go.ChangeAt Go.RowKit Gs
set_option linter.unusedVariables false

theorem reads_own {w : World} {B n c : Nat} {A : Option Addr} {l : List (Int × Int)} (h : OwnS w B (.slice A n c) l) (hn : l.length = n) : Reads w w.heap.size 2 A n (cells2 l) := by
  subst hn
  refine ⟨cells2_length l, fun h0 => ?_⟩
  rcases h.2 with ⟨e, h1⟩ | ⟨g, cap, cur, e, hb, hg, hn, hc, _, _⟩
  · omega
  · cases e
    exact ⟨_, rfl, (Array.getElem?_eq_some_iff.1 hg).1, fun j u hu => h.cells (g := g) rfl j u hu⟩
theorem own_oneS (w : World) (p : Int × Int) {B : Nat} (hB : B ≤ w.heap.size) : OwnS (w.alloc (.cells #[.int .i64 p.1, .int .u64 p.2] 37)) B (.slice (some ⟨w.heap.size, 0, none⟩) 1 1) [p] :=
  ⟨rfl, .inr ⟨_, 1, #[.int .i64 p.1, .int .u64 p.2], rfl, hB, World.alloc_heap_new w _, Nat.le_refl _, by unfold maxLen; omega, rfl, rfl⟩⟩
theorem own_at_new (w : World) (p : Int × Int) {B g : Nat} (hB : B ≤ w.heap.size) (hg : g = w.heap.size) : (w.alloc (.cells #[.int .i64 p.1, .int .u64 p.2] 37)).ownsRow B 37 2 (.slice (some ⟨g, 0, none⟩) 1 1) 1 (cells2 [p]) := by
  subst hg
  exact own_oneS w p hB
theorem reads_on {w w' : World} {size n : Nat} {A : Option Addr} {xs : List Value} (h : Reads w w.heap.size size A n xs) (hb : Below w.heap.size w w') : Reads w' w'.heap.size size A n xs :=
  ⟨h.1, fun h0 => by
    obtain ⟨ad, e, hl, hc⟩ := h.2 h0
    have := hb.size
    exact ⟨ad, e, by omega, fun j u hu => (hb.cell (by rw [block_of_add]; exact hl)).trans (hc j u hu)⟩⟩
/-- So many shares, from a place on, round. -/
def picks (l : List (Int × Int)) (F N : Nat) : List (Int × Int) := (List.range N).map fun (i : Nat) => l[(F + i) % l.length]?.getD (0, 0)
theorem picks_length (l : List (Int × Int)) (F N : Nat) : (picks l F N).length = N := by simp [picks]
theorem picks_succ (l : List (Int × Int)) (F N q : Nat) (hq : (F + N) % l.length = q) (h : q < l.length) : picks l F (N + 1) = picks l F N ++ [l[q]] := by
  unfold picks
  rw [List.range_succ, List.map_append, List.map_singleton, hq, List.getElem?_eq_getElem h]; rfl
def someL (l : List (Int × Int)) (F N : Nat) (turned : Bool) : List (Int × Int) := if turned then (picks l F N).reverse else picks l F N
theorem someL_length (l : List (Int × Int)) (F N : Nat) (tu : Bool) : (someL l F N tu).length = N := by
  unfold someL; split <;> simp [picks_length]

end Go.Proofs.YtlannmedefjfhaaGreat

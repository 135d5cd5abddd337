/- Rows of cells: copies of elements of k cells, a row with an element more; for any program. -/
import Derived.Test.YtnjmhijfaijopaaFieldLib
import Derived.Laws.CopyRow
import Derived.Lib.AppendZerosOnto
import Derived.Lib.Overlaps
import Derived.Laws.Externs
import Derived.Laws.IdiomCopy
import Derived.Lib.SliceRun
namespace Go.Proofs.Ytnjmhijfaijopaa
open Go.ChangeShapes Go.WideShapes Go.ChangeAt Go.RowKit Gs
set_option linter.unusedVariables false
set_option linter.unusedSimpArgs false

/-- copy of m elements of k cells into a row. -/
theorem run_copy_rowK {P : Program} (w : World) (dT sT ty elem : TypeId) (g o dLen dCap : Nat) (a : Addr) (sLen sCap : Nat) (cur : Array Value) (t : TypeId) (cs : List Value) (k m : Nat)
    (hu : P.underlying dT = some (.slice elem)) (hs : (P.info? elem).map (·.size) = some k)
    (hg : Blk w g t cur) (hm : m = Nat.min sLen dLen) (hn : cs.length = m * k)
    (hsrc : ∀ j v, cs[j]? = some v → w.cell? (a.add j) = some v) (hfit : o + cs.length ≤ cur.size) (h1 : ∀ v ∈ cs, v.oneCell' = true) :
    (Builtin.copy_ #[dT, sT] ty #[.slice (some ⟨g, o, none⟩) dLen dCap, .slice (some a) sLen sCap]).run P w =
      .ok (goInt m) (w.setRow g (cur.toList.take o ++ cs ++ cur.toList.drop (o + cs.length)).toArray) := by
  have hl := run_loadCells_list (P := P) w a cs hsrc
  have hst := run_storeCells_at P g o t cs 0 cur w hg (by simpa using hfit) h1
  cases hq : P.info? elem with
  | none => simp [hq] at hs
  | some i =>
    have hi : i.size = k := by simpa [hq] using hs
    rw [hn] at hl
    simp [Builtin.copy_, run_underlying hu, Builtin.lenOf, Builtin.firstCells, sizeOf, typeInfo, hq, hi, ← hm, hl, hst]
theorem Blk.row {w : World} {g : Nat} {t : TypeId} {cs : Array Value} (h : Blk w g t cs) (cs' : Array Value) : Blk (w.setRow g cs') g t cs' := setRow_heap w g cs cs' t (0, 0) h
theorem row_other (w : World) (g : Nat) (cs : Array Value) (k : Nat) (hk : k ≠ g) : (w.setRow g cs).heap[k]? = w.heap[k]? := by
  unfold World.setRow
  simp only [Array.getElem?_modify]
  rw [if_neg (fun e => hk e.symm)]
theorem row_size (w : World) (g : Nat) (cs : Array Value) : (w.setRow g cs).heap.size = w.heap.size := by
  unfold World.setRow; simp
theorem Blk.rowOther {w : World} {g q : Nat} {t : TypeId} {cs : Array Value} (h : Blk w g t cs) (hq : g ≠ q) (cs' : Array Value) : Blk (w.setRow q cs') g t cs := (row_other w q cs' g hq).trans h
theorem below_row {B : Nat} {a w : World} (h : Below B a w) {g : Nat} (hg : B ≤ g) (cs : Array Value) : Below B a (w.setRow g cs) :=
  ⟨h.os, h.tape, h.output, by rw [row_size]; exact h.size, fun k hk => (row_other w g cs k (by omega)).trans (h.block k hk)⟩
/-- What a row holds when an element's cells xs were put in at p. -/
theorem ins_row {cur cs xs : List Value} {p q k : Nat} (hcs : cur.take q = cs) (hcl : cs.length = q) (hp : p ≤ q) (hx : xs.length = k) (hq : q + k ≤ cur.length) :
    (((cur.take (p + k) ++ cs.drop p ++ cur.drop (p + k + (cs.drop p).length)).take p ++ xs ++ (cur.take (p + k) ++ cs.drop p ++ cur.drop (p + k + (cs.drop p).length)).drop (p + xs.length)).take (q + k)) = cs.take p ++ xs ++ cs.drop p := by
  have e1 : (cur.take (p + k) ++ cs.drop p ++ cur.drop (p + k + (cs.drop p).length)).take p = cs.take p := by
    rw [List.append_assoc, List.take_append_of_le_length (by simp; omega), List.take_take, Nat.min_eq_left (by omega), ← hcs, List.take_take, Nat.min_eq_left hp]
  have e2 : (cur.take (p + k) ++ cs.drop p ++ cur.drop (p + k + (cs.drop p).length)).drop (p + xs.length) = cs.drop p ++ cur.drop (p + k + (cs.drop p).length) := by
    rw [List.append_assoc, List.drop_append, List.drop_eq_nil_of_le (by simp; omega), List.nil_append]
    rw [show p + xs.length - (cur.take (p + k)).length = 0 by simp; omega]; rfl
  rw [e1, e2, ← List.append_assoc, List.take_append_of_le_length (by simp; omega)]
  exact List.take_of_length_le (by simp; omega)
theorem rowK_read {w : World} {g : Nat} {t : TypeId} {cur : Array Value} (h : Blk w g t cur) (cs : List Value) (p : Nat) (hr : ∀ j v, cs[j]? = some v → cur[p + j]? = some v) :
    ∀ j v, cs[j]? = some v → w.cell? ((⟨g, p, none⟩ : Addr).add j) = some v := fun j v hj => by
  have : ((⟨g, p, none⟩ : Addr).add j) = ⟨g, p + j, none⟩ := by unfold Addr.add; split <;> simp_all
  rw [this, h.cell]; exact hr j v hj
end Go.Proofs.Ytnjmhijfaijopaa

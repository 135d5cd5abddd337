/- Contracts of the hash: what the chapter's examples want; a string of bytes; blocks that are known whole, in a list. -/
import Derived.Test.YtjcanehlnggffaaHashM
import Derived.Laws.BytesArg
namespace Go.Proofs.Ytjcanehlnggffaa
open Go.ChangeShapes Go.WideShapes Go.ChangeAt Go.RowKit Gs
set_option linter.unusedVariables false

theorem calls_named {P : Program} {f : FuncId} {args : Array Value} {R : Ending → World → Prop} {W : World} (Q : World → Prop) (hQ : Q W) (h : ∀ w2, Q w2 → Calls P f args w2 R) : Calls P f args W R := h W hQ

/-- Blocks that are known whole. -/
def Blks (w : World) : List (Nat × TypeId × Array Value) → Prop
  | [] => True
  | x :: r => Blk w x.1 x.2.1 x.2.2 ∧ Blks w r
theorem Blks.below {w w' : World} : ∀ {L : List (Nat × TypeId × Array Value)}, Blks w L → Below w.heap.size w w' → Blks w' L
  | [], _, _ => trivial
  | _ :: _, h, hb => ⟨h.1.below hb h.1.lt, Blks.below h.2 hb⟩
theorem Blks.alloc {w : World} {L : List (Nat × TypeId × Array Value)} (h : Blks w L) (o : Obj) : Blks (w.alloc o) L := h.below ((Below.refl _ _).alloc (Nat.le_refl _) o)
theorem Blks.push {w : World} {L : List (Nat × TypeId × Array Value)} (h : Blks w L) {g : Nat} (hg : g = w.heap.size) (t : TypeId) (cs : Array Value) : Blks (w.alloc (.cells cs t)) ((g, t, cs) :: L) :=
  ⟨Blk.new_at w t cs hg, h.alloc _⟩

theorem conv_si {w : World} {B : Nat} {A : Option Addr} {xs : List Int} {n c : Nat} (hn : xs.length = n) (h : SI w B .u8 A xs) :
    (convert 27 9 (.slice A n c)).run Try.prog w = .ok (.string (strOfNums xs)) w := by
  subst hn
  rcases A with _ | ad
  · have h0 : xs = [] := by
      rcases xs with _ | ⟨x, r⟩
      · rfl
      · obtain ⟨ad, e, _⟩ := h 0 (by simp)
        cases e
    subst h0
    show (convert 27 9 (.slice none 0 c)).run Try.prog w = _
    rw [run_convert_bytes_string w 27 9 5 none 0 c Try.underlying27 Try.underlying5 Try.underlying9]
    rfl
  · have hl : (loadCells ad xs.length).run Try.prog w = .ok (xs.map (Value.int .u8)).toArray w := by
      have := run_loadCells_list (P := Try.prog) w ad (xs.map (Value.int .u8)) (fun j v hj => by
        have hj' : j < xs.length := by
          have := (List.getElem?_eq_some_iff.1 hj).1
          simpa using this
        obtain ⟨ad', e, _, hc⟩ := h j hj'
        cases e
        rw [hc]
        simp [List.getElem?_eq_getElem hj'] at hj ⊢
        rw [← hj])
      simpa using this
    rw [run_convert_bytes_string w 27 9 5 _ xs.length c Try.underlying27 Try.underlying5 Try.underlying9, run_bytesToString w _ xs.length c xs hl, foldl_push_bytes]
    simp [strOfNums, ByteArray.empty, ByteArray.emptyWithCapacity]
    rfl

theorem Sum_nil (w : World) : Calls Try.prog 16 #[.slice none 0 0] w fun e w' => e = .returned (.agg #[.int .u64 (hmix (0, 0, 0)).1, .int .u64 (hmix (0, 0, 0)).2.1]) ∧ Below w.heap.size w w' :=
  Sum_any none 0 [] (by simp) (by simp) (by simp) w (fun j hj => by simp at hj)
theorem hst_7 : hst [7] = hmix (7, 0, 1) := by
  have h1 : fof [7] = [7] := by decide
  have h2 : fadd 0 7 = 7 := by decide
  unfold hst
  rw [h1]
  show hmix (sk 0 (some 7), sk 0 none, 1) = _
  show hmix (fadd 0 7, 0, 1) = _
  rw [h2]
theorem Sum_7 (g : Nat) (w : World) (hs : SI w w.heap.size .u8 (some ⟨g, 0, none⟩) [7]) : Calls Try.prog 16 #[.slice (some ⟨g, 0, none⟩) 1 1] w fun e w' => e = .returned (.agg #[.int .u64 (hmix (7, 0, 1)).1, .int .u64 (hmix (7, 0, 1)).2.1]) ∧ Below w.heap.size w w' := by
  have h := Sum_any (some ⟨g, 0, none⟩) 1 [7] (by simp) (by simp) (by simp) w hs
  rw [hst_7] at h
  exact h
theorem Of_nil (w : World) : Calls Try.prog 23 #[.slice none 0 0] w fun e w' => e = .returned (.tuple #[.agg #[.int .u64 0, .int .u64 0], .int .i64 70]) ∧ Below w.heap.size w w' := hOfShort none 0 0 (by omega) w
theorem be_live : be 1 8 ++ be 258 8 = [0, 0, 0, 0, 0, 0, 0, 1, 0, 0, 0, 0, 0, 0, 1, 2] := by decide
theorem hof_live : hofE (be 1 8 ++ be 258 8) = 0 ∧ hofA (be 1 8 ++ be 258 8) = (1, 258) := by
  rw [be_live]; decide
theorem Of_live (A : Option Addr) (c : Nat) (hc : 16 ≤ c) (w : World) (hs : SI w w.heap.size .u8 A (be 1 8 ++ be 258 8)) : Calls Try.prog 23 #[.slice A 16 c] w fun e w' => e = .returned (.tuple #[.agg #[.int .u64 1, .int .u64 258], .int .i64 0]) ∧ Below w.heap.size w w' := by
  have h := hOf_all A c (be 1 8 ++ be 258 8) (sum_bound _ _) (by simpa [be_length] using hc) w hs
  rw [hof_live.1, hof_live.2] at h
  exact h
end Go.Proofs.Ytjcanehlnggffaa

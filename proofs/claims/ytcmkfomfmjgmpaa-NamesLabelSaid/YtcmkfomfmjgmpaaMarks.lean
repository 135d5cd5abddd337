/- The marks that ranges over a function leave among a function's deferred calls, and what becomes of them. -/
import Derived.Test.YtcmkfomfmjgmpaaFieldLib
import Derived.Test.YtcmkfomfmjgmpaaRound
namespace Go.Proofs.Ytcmkfomfmjgmpaa
open Go.ChangeShapes Go.WideShapes Go.ChangeAt Go.RowKit Go.Shelf Gs
set_option linter.unusedVariables false

/-- The marks that ranges over a function leave among a function's deferred calls. -/
def marks (Ds : List Nat) : List Deferred := Ds.map fun D => { target := .collected D, args := #[] }
/-- W' is W, but for the blocks Ds. -/
structure Shuts (Ds : List Nat) (W W' : World) : Prop where
  os : W'.os = W.os
  tape : W'.tape = W.tape
  output : W'.output = W.output
  size : W'.heap.size = W.heap.size
  block : ∀ b, b ∉ Ds → W'.heap[b]? = W.heap[b]?
theorem leaves_marks {F : Fence} {n : Nat} {P : Program} {fn : Func} {tmps : Array Value} {R : Ending → World → Prop} : ∀ (Ds : List Nat) (W : World), Ds.Nodup → (∀ D ∈ Ds, W.heap[D]? = some (.deferred (some []))) →
    (∀ W', Shuts Ds W W' → LeavesIn F n P fn tmps R [] .returning W') → LeavesInM F n P fn tmps R (marks Ds) .returning W
  | [], W, _, _, h => h W ⟨rfl, rfl, rfl, rfl, fun _ _ => rfl⟩
  | D :: Ds, W, hn, hD, h => by
    refine ⟨by simp, .inl ⟨D, _, rfl, run_takeDeferred (hD D (List.mem_cons_self ..)), ?_⟩⟩
    have hDs := (List.nodup_cons.1 hn).1
    refine leaves_marks Ds _ (List.nodup_cons.1 hn).2 (fun D' h' => ?_) (fun W' hs => h W' ?_)
    · have hne : D' ≠ D := fun e => hDs (e ▸ h')
      exact (World.putObj_heap_other hne).trans (hD D' (List.mem_cons_of_mem _ h'))
    · refine ⟨hs.os, hs.tape, hs.output, by rw [hs.size]; simp, fun b hb => ?_⟩
      rw [List.mem_cons, not_or] at hb
      exact (hs.block b hb.2).trans (World.putObj_heap_other hb.1)
theorem Shuts.grown {Ds : List Nat} {a W W' : World} {row : Option Nat} (h : Shuts Ds W W') (hg : a.grownBy W row) (hD : ∀ D ∈ Ds, a.heap.size ≤ D) : a.grownBy W' row :=
  ⟨h.os.trans hg.os, h.tape.trans hg.tape, h.output.trans hg.output, by rw [h.size]; exact hg.size, fun i hi hne => (h.block i (fun hm => by have := hD i hm; omega)).trans (hg.block i hi hne)⟩
theorem Shuts.below {Ds : List Nat} {B : Nat} {a W W' : World} (h : Shuts Ds W W') (hb : Below B a W) (hD : ∀ D ∈ Ds, B ≤ D) : Below B a W' :=
  ⟨h.os.trans hb.os, h.tape.trans hb.tape, h.output.trans hb.output, by rw [h.size]; exact hb.size, fun i hi => (h.block i (fun hm => by have := hD i hm; omega)).trans (hb.block i hi)⟩
theorem Shuts.blk {Ds : List Nat} {W W' : World} {g : Nat} {t : TypeId} {cs : Array Value} (h : Shuts Ds W W') (hD : ∀ D ∈ Ds, W.heap[D]? = some (.deferred (some []))) (hb : Blk W g t cs) : Blk W' g t cs := by
  refine (h.block g (fun hm => ?_)).trans hb
  have := hD g hm
  unfold Blk at hb
  rw [hb] at this
  cases this
theorem Shuts.own {Ds : List Nat} {W W' : World} {base : Nat} {e : TypeId} {size n : Nat} {v : Value} {xs : List Value} (h : Shuts Ds W W') (hD : ∀ D ∈ Ds, W.heap[D]? = some (.deferred (some []))) (ho : W.ownsRow base e size v n xs) : W'.ownsRow base e size v n xs := by
  rcases ho.2 with ⟨rfl, h0⟩ | ⟨g, cap, cur, rfl, hb, hg, hnc, hcm, hcs, htake⟩
  · exact ⟨ho.1, .inl ⟨rfl, h0⟩⟩
  · refine ⟨ho.1, .inr ⟨g, cap, cur, rfl, hb, (h.block g (fun hm => ?_)).trans hg, hnc, hcm, hcs, htake⟩⟩
    have := hD g hm
    rw [hg] at this
    cases this

end Go.Proofs.Ytcmkfomfmjgmpaa

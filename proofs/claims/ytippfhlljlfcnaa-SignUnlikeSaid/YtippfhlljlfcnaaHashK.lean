/- Contracts of the hash: which hash bytes are. -/
import Derived.Test.YtippfhlljlfcnaaHashJ
import Derived.RegionTactic
import Derived.Deep.RegionHeld3
import Derived.Deep.DrawnRows
namespace Go.Proofs.Ytippfhlljlfcnaa
open Go.ChangeShapes Go.WideShapes Go.ChangeAt Go.RowKit Gs
set_option linter.unusedVariables false
attribute [local go_sem ↓] Go.wp_at_zero Go.wp_at_succ

def hofOk (xs : List Int) : Prop := xs.length = 16 ∧ bnum (xs.take 8) 0 < PP ∧ bnum (xs.drop 8) 0 < PP
instance (xs : List Int) : Decidable (hofOk xs) := by unfold hofOk; infer_instance
/-- The error and the hash that bytes are. -/
def hofE (xs : List Int) : Int := if xs.length < 16 then 70 else if hofOk xs then 0 else 71
def hofA (xs : List Int) : Int × Int := if hofOk xs then (bnum (xs.take 8) 0, bnum (xs.drop 8) 0) else (0, 0)
theorem hof_short {xs : List Int} (h : xs.length < 16) : hofE xs = 70 ∧ hofA xs = (0, 0) := by
  unfold hofE hofA
  rw [if_pos h, if_neg (fun h2 => by unfold hofOk at h2; omega)]; exact ⟨rfl, rfl⟩
theorem hof_bad {xs : List Int} (h : ¬ xs.length < 16) (h2 : ¬ hofOk xs) : hofE xs = 71 ∧ hofA xs = (0, 0) := by
  unfold hofE hofA
  rw [if_neg h, if_neg h2, if_neg h2]; exact ⟨rfl, rfl⟩
theorem hof_ok {xs : List Int} (h2 : hofOk xs) : hofE xs = 0 ∧ hofA xs = (bnum (xs.take 8) 0, bnum (xs.drop 8) 0) := by
  unfold hofE hofA
  rw [if_neg (by unfold hofOk at h2; omega), if_pos h2, if_pos h2]; exact ⟨rfl, rfl⟩

end Go.Proofs.Ytippfhlljlfcnaa

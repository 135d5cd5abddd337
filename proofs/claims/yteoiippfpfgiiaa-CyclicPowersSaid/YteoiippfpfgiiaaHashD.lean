/- Contracts of the hash: the plain answer of the hash of bytes. -/
import Derived.Test.YteoiippfpfgiiaaHashC
namespace Go.Proofs.Yteoiippfpfgiiaa
open Go.ChangeShapes Go.WideShapes Go.ChangeAt Go.RowKit Go.Shelf Gs
set_option linter.unusedVariables false

theorem hst_ref (xs : List Int) : hst xs = habs (fof xs) (0, 0, xs.length) (max 1 (((fof xs).length + 1) / 2)) := by
  have hl := fof_length xs
  unfold hst
  by_cases h : xs.length = 0
  · rw [if_pos h]
    have h0 : (fof xs).length = 0 := by omega
    have h1 : fof xs = [] := List.eq_nil_of_length_eq_zero h0
    rw [h1, h]
    rfl
  · rw [if_neg h, show max 1 (((fof xs).length + 1) / 2) = ((fof xs).length + 1) / 2 by omega]

end Go.Proofs.Yteoiippfpfgiiaa

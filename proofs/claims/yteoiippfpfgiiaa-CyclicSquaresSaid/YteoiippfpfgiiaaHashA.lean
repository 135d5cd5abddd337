/- Contracts of the hash: rounds and mixing, of the program and of the plain answer. -/
import Derived.Test.YteoiippfpfgiiaaBlk
import Derived.Test.YteoiippfpfgiiaaHashMath
import Derived.LoopN
import Derived.BigQuiet
import Derived.Deep.RegionHeld3
import Derived.Deep.DrawnRows
namespace Go.Proofs.Yteoiippfpfgiiaa
open Go.ChangeShapes Go.WideShapes Go.ChangeAt Go.RowKit Gs
set_option linter.unusedVariables false
attribute [local go_sem ↓] Go.wp_at_zero Go.wp_at_succ

instance (r i : Nat) (x : Int) : IsU (sb r i x) := IsU.of (fpow_el _ _).u64
instance (r : Nat) (a b c : Int) : IsU (rall r a b c) := IsU.of (fadd_el _ _).u64

theorem kc_ref (r i : Nat) (m : Int) (hm : m = ((3 * r + i + 1 : Nat) : Int)) (hr : r < 8) (hi : i < 3) : fadd (fpow m 3) 7 = kc r i := by
  subst hm
  have h := kc_bound r i hr hi
  have h2 : fadd (fpow ((3 * r + i + 1 : Nat) : Int) 3) 7 = kc r i % PP := by
    unfold fadd fpow kc
    rw [Int.emod_add_emod]
    congr 2
    rw [Int.pow_succ, Int.pow_succ, Int.pow_succ, Int.pow_zero, Int.one_mul]
  rw [h2]
  unfold PP
  omega

end Go.Proofs.Yteoiippfpfgiiaa

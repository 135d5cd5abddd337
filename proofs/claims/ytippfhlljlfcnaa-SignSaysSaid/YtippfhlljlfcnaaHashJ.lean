/- Contracts of the hash: bytes as numbers. -/
import Derived.Test.YtippfhlljlfcnaaHashI
import Derived.Test.YtippfhlljlfcnaaHashNumber
namespace Go.Proofs.Ytippfhlljlfcnaa
open Go.ChangeShapes Go.WideShapes Go.ChangeAt Go.RowKit Gs
set_option linter.unusedVariables false

/-- The number of bytes, the highest first. -/
def bnumTo (xs : List Int) (k : Nat) : Int := bnum (xs.take k) 0

theorem or_byte (a x : Int) (h0 : 0 ≤ a) (h1 : a < 72057594037927936) (x0 : 0 ≤ x) (x1 : x < 256) : bits .or .u64 (a * 256) x = 256 * a + x := by
  obtain ⟨a, rfl⟩ := Int.eq_ofNat_of_zero_le h0
  obtain ⟨x, rfl⟩ := Int.eq_ofNat_of_zero_le x0
  have e1 : (a : Int) * 256 = ((a * 256 : Nat) : Int) := by omega
  rw [e1, u64_or_nat _ _ (by omega) (by omega)]
  have := Nat.shiftLeft_add_eq_or_of_lt (a := a) (i := 8) (b := x) (by omega)
  rw [Nat.shiftLeft_eq] at this
  rw [show a * 256 = a * 2 ^ 8 from rfl, ← this]
  omega

end Go.Proofs.Ytippfhlljlfcnaa

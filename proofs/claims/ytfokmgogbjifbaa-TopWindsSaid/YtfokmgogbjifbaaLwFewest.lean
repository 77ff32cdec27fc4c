/-
  The walk of the law WindFewest: it returns true. Conditions: 'Tabs', and that the slice can be read.
-/
import Derived.Test.YtfokmgogbjifbaaWi19
import Derived.Test.YtfokmgogbjifbaaLwCovers
namespace Go.Proofs.Ytfokmgogbjifbaa
open Go.RowKit
set_option linter.unusedVariables false

theorem fewL_len (l : List Pt) : (fewL l).length ≤ 32 := by
  unfold fewL
  split
  · exact listB_le _
  · simp
theorem few_lee {l : List Pt} (h : pipesE l = 0) : (leeV l == 0) = fewOk l := by
  have h1 := lee_cov h
  have h2 : leeV l = (leeN l : Nat) := if_pos h
  have h3 : fewOk l = covF l (2 ^ l.length - 1) := by simp [fewOk, h]
  rw [h3, ← h1, h2]
  cases hb : decide (leeN l = 0)
  · have : ¬ leeN l = 0 := of_decide_eq_false hb
    exact beq_eq_false_iff_ne.2 (by omega)
  · have : leeN l = 0 := of_decide_eq_true hb
    exact beq_iff_eq.2 (by omega)
end Go.Proofs.Ytfokmgogbjifbaa

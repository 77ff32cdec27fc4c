/-
  Merge of the reference: the walk. Condition: sizes.
-/
import Derived.Test.YtoenecgjiejljaaDoorBhd
namespace Go.Proofs.YtoenecgjiejljaaDoor
open Go.RowKit
set_option linter.unusedVariables false

theorem sL_emp (r : List UInt8) : (sL r).toList.isEmpty = decide (r = []) := by
  have h := sL_nil (r := r)
  rw [← h]
  cases (sL r).toList <;> rfl
/-- What Merge returns, as an ending. -/
def MgPost (o : List UInt8 × Int × Int) (w : World) (e : Ending) (w' : World) : Prop := e = .returned (.tuple #[.string (sL o.1), .int .i64 o.2.1, .int .i64 o.2.2]) ∧ Below w.heap.size w w'
end Go.Proofs.YtoenecgjiejljaaDoor

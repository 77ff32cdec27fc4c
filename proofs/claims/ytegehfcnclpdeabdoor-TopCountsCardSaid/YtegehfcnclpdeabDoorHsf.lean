/-
  Catches and first catches, in rows. Nothing of the program.
-/
import Derived.Test.YtegehfcnclpdeabDoorHse
namespace Go.Proofs.YtegehfcnclpdeabDoor
open Go.RowKit
set_option linter.unusedVariables false

theorem cats_rows {C : List ByteArray} : ∃ K n F, catC C = ints (rowZ K (n * 3)) ∧ catD C = ints (rowZ K (n * 3)) ∧ catN C = n ∧ dayL nwB C = rowZ F n ∧ n ≤ 8 ∧ (∀ i, i < n → F i ≤ 60) ∧ (∀ i, i < n → K (i * 3) = sm F i) := by
  rw [← cats_same]
  by_cases hv : vhE C = 0
  · have hb := vh_bird hv
    exact ⟨_, _, _, if_pos hv, if_pos hv, if_pos hv, if_pos hv, D0_le hv, fun i _ => Nat.le_trans (cnt_le _ _ _) hb.1, fun i _ => by rw [catG_0]; exact marked_sum hv i⟩
  · exact ⟨fun _ => 0, 0, fun _ => 0, if_neg hv, if_neg hv, if_neg hv, if_neg hv, by omega, fun _ h => by omega, fun _ h => by omega⟩
end Go.Proofs.YtegehfcnclpdeabDoor

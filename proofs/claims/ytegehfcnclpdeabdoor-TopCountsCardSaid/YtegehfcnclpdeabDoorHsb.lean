/-
  How long each bird is known to be alive: the walk of Lives of the reference. Condition: the list can be read.
-/
import Derived.Test.YtegehfcnclpdeabDoorHsa
namespace Go.Proofs.YtegehfcnclpdeabDoor
open Go.RowKit
set_option linter.unusedVariables false

theorem inB_up {s : ByteArray} {f d : Nat} (hf : hitB s f = true) (h0 : ∀ d, d < f → hitB s d = false) : inB s 0 (d + 1) = decide (f ≤ d) := by
  by_cases h : f ≤ d
  · rw [decide_eq_true h]
    exact inB_iff.2 ⟨f, Nat.zero_le _, by omega, hf⟩
  · rw [decide_eq_false h]
    cases hc : inB s 0 (d + 1)
    · rfl
    · obtain ⟨k, _, hk, hh⟩ := inB_iff.1 hc
      rw [h0 k (by omega)] at hh; cases hh
theorem inB_down {s : ByteArray} {l d : Nat} (hl : hitB s l = true) (hls : l < s.size) (h0 : ∀ d, l < d → hitB s d = false) : inB s d s.size = decide (d ≤ l) := by
  by_cases h : d ≤ l
  · rw [decide_eq_true h]
    exact inB_iff.2 ⟨l, h, hls, hl⟩
  · rw [decide_eq_false h]
    cases hc : inB s d s.size
    · rfl
    · obtain ⟨k, hk, _, hh⟩ := inB_iff.1 hc
      rw [h0 k (by omega)] at hh; cases hh
end Go.Proofs.YtegehfcnclpdeabDoor

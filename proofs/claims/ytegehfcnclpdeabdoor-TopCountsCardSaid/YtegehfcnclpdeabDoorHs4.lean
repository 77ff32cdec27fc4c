/-
  Which histories are valid: the walk of ValidateHistories of the reference. Condition: the list can be read.
-/
import Derived.Test.YtegehfcnclpdeabDoorHs3
namespace Go.Proofs.YtegehfcnclpdeabDoor
open Go.RowKit
set_option linter.unusedVariables false

theorem bits_bad {s : ByteArray} {i : Nat} (h : i < s.size) (h1 : (s[i]'h).toNat ≠ 48) (h2 : (s[i]'h).toNat ≠ 49) : bitsB s = false := by
  unfold bitsB
  rw [List.all_eq_false]
  refine ⟨s[i]'h, List.mem_of_getElem? (bl_get s i h), ?_⟩
  unfold isBit
  rw [decide_eq_false (fun e => h1 (by rw [e]; rfl)), decide_eq_false (fun e => h2 (by rw [e]; rfl))]
  decide
theorem bits_next {s : ByteArray} {i : Nat} (h : i < s.size) (ha : ((bl s).take i).all isBit = true) (h1 : (s[i]'h).toNat = 48 ∨ (s[i]'h).toNat = 49) : ((bl s).take (i + 1)).all isBit = true := by
  rw [List.take_add_one, bl_get s i h, List.all_append, ha]
  have : isBit (s[i]'h) = true := by
    unfold isBit
    rcases h1 with h1 | h1
    · rw [decide_eq_true (UInt8.toNat_inj.1 (show (s[i]'h).toNat = (48 : UInt8).toNat from h1))]; rfl
    · rw [decide_eq_true (UInt8.toNat_inj.1 (show (s[i]'h).toNat = (49 : UInt8).toNat from h1)), Bool.or_true]
  simp [this]
theorem bits_end {s : ByteArray} {i : Nat} (h : s.size ≤ i) (ha : ((bl s).take i).all isBit = true) : bitsB s = true := by
  rw [List.take_of_length_le (by rw [bl_len]; exact h)] at ha
  exact ha
end Go.Proofs.YtegehfcnclpdeabDoor

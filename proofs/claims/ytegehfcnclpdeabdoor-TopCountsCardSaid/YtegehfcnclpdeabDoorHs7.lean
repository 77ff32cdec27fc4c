/-
  How long each bird is known to be alive: the walk of Lives. Condition: the list can be read.
-/
import Derived.Test.YtegehfcnclpdeabDoorHs6
namespace Go.Proofs.YtegehfcnclpdeabDoor
open Go.RowKit
set_option linter.unusedVariables false

def lvN (s : ByteArray) : Nat := (lD s - fD s + 1).toNat
def lvAt (C : List ByteArray) (k : Nat) : Nat := lvN (C.getD k ⟨#[]⟩)
def livL (C : List ByteArray) : List Int := if vhE C = 0 then rowZ (lvAt C) C.length else []
theorem lv_one {s : ByteArray} (h : oneB s = true) : ∃ f l : Nat, fD s = f ∧ lD s = l ∧ f ≤ l ∧ l < s.size ∧ hitB s f = true ∧ hitB s l = true ∧ (∀ d, d < f → hitB s d = false) ∧ (∀ d, l < d → hitB s d = false) ∧ lvN s = l - f + 1 := by
  obtain ⟨d, _, hd, hh⟩ := inB_iff.1 h
  rcases fD_spec s with ⟨_, h0⟩ | ⟨f, ef, hf, hf2⟩
  · rw [h0 d] at hh; cases hh
  · rcases lD_spec s with ⟨_, h0⟩ | ⟨l, el, hl, hl2⟩
    · rw [h0 d] at hh; cases hh
    · have hfl : f ≤ l := by
        rcases Nat.lt_or_ge l f with h1 | h1
        · rw [hl2 f h1] at hf; cases hf
        · exact h1
      exact ⟨f, l, ef, el, hfl, hit_lt hl, hf, hl, hf2, hl2, by unfold lvN; rw [ef, el]; omega⟩
def LivPost (C : List ByteArray) (w : World) (e : Ending) (w' : World) : Prop := ∃ A' c', e = .returned (.tuple #[.slice A' (livL C).length c', .int .i64 (vhE C)]) ∧ Rd w' w'.heap.size A' (ints (livL C)) ∧ Below w.heap.size w w'
end Go.Proofs.YtegehfcnclpdeabDoor

/-
  Levels, the chance of at least so many, equal lists: the walks of isLevel of both sides, atLeast, SameInts. Condition: numbers of birds, where said.
-/
import Derived.Test.YtegehfcnclpdeabDoorCc7
namespace Go.Proofs.YtegehfcnclpdeabDoor
open Go.RowKit
set_option linter.unusedVariables false

theorem eqI_next {a b : List Int} {k : Nat} {x y : Int} (hx : a[k]? = some x) (hy : b[k]? = some y) (h : a.take k = b.take k) (he : x = y) : a.take (k + 1) = b.take (k + 1) := by
  rw [List.take_add_one, List.take_add_one, hx, hy, h, he]
theorem eqI_bad {a b : List Int} {k : Nat} {x y : Int} (hx : a[k]? = some x) (hy : b[k]? = some y) (he : ¬ x = y) : decide (a = b) = false := decide_eq_false fun h => he (by
  rw [h, hy] at hx
  injection hx with hx
  exact hx.symm)
/-- A level. -/
def lvB (n d : Int) : Bool := (decide (1 ≤ d) && decide (d ≤ 1000)) && ((decide (0 ≤ n) && decide (n ≤ d)) && (Nat.gcd n.toNat d.toNat == 1))
theorem gcd_beq (g : Nat) : ((g : Int) == 1) = (g == 1) := by
  by_cases h : g = 1
  · subst h; rfl
  · rw [beq_eq_false_iff_ne.2 (show (g : Int) ≠ 1 by omega), beq_eq_false_iff_ne.2 h]
end Go.Proofs.YtegehfcnclpdeabDoor

/-
  The chance of at most so many: the walks of atMost, upTo of the reference. Condition: numbers of birds, marked and caught not above birds.
-/
import Derived.Test.YtegehfcnclpdeaaDoorCb8
namespace Go.Proofs.YtegehfcnclpdeaaDoor
open Go.RowKit
set_option linter.unusedVariables false

theorem Rd.go {w w' : World} {A : Option Addr} {xs : List Value} (h : Rd w w.heap.size A xs) (hb : Below w.heap.size w w') : Rd w' w'.heap.size A xs := (h.below hb (Nat.le_refl _)).more hb.size
/-- The chance of fewer than k. -/
def amN (b m c k : Nat) : Nat × Nat := fr (upW b m c k) (ch b c)
end Go.Proofs.YtegehfcnclpdeaaDoor

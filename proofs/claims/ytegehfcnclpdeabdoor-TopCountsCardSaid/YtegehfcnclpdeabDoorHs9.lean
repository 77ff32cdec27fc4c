/-
  Numbers of each day: the walks of First and Alive of the reference. Condition: the list can be read.
-/
import Derived.Test.YtegehfcnclpdeabDoorHs8
namespace Go.Proofs.YtegehfcnclpdeabDoor
open Go.RowKit
set_option linter.unusedVariables false

theorem bdH {B : Nat} {w w' : World} (h : Below B w w') (n : Nat) : Below B w (w'.drewN n) := ⟨h.os, h.tape, h.output, h.size, h.block⟩
def nwR (s : ByteArray) (d : Nat) : Bool := inB s d (d + 1) && !inB s 0 d
def avR (n : Nat) (s : ByteArray) (d : Nat) : Bool := inB s 0 (d + 1) && inB s d n
theorem rowZ_snoc (F : Nat → Nat) (j : Nat) : ints (rowZ F (j + 1)) = ints (rowZ F j) ++ [.int .i64 (F j : Int)] := by
  unfold rowZ ints
  rw [List.range_succ]
  simp
end Go.Proofs.YtegehfcnclpdeabDoor

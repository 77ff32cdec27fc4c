/-
  The catch of each day: the walk of Catches of the reference. Condition: the list can be read.
-/
import Derived.Test.YtegehfcnclpdeabDoorHsb
namespace Go.Proofs.YtegehfcnclpdeabDoor
open Go.RowKit
set_option linter.unusedVariables false

def mkR (s : ByteArray) (d : Nat) : Bool := inB s 0 d
def cgR (s : ByteArray) (d : Nat) : Bool := inB s d (d + 1)
def agR (s : ByteArray) (d : Nat) : Bool := inB s 0 d && inB s d (d + 1)
def catR (C : List ByteArray) (p : Nat) : Nat :=
  if p % 3 = 0 then cnt (mkR · (p / 3)) C C.length else if p % 3 = 1 then cnt (cgR · (p / 3)) C C.length else cnt (agR · (p / 3)) C C.length
theorem catR_0 (C : List ByteArray) (d : Nat) : catR C (d * 3) = cnt (mkR · d) C C.length := by
  unfold catR
  rw [if_pos (by omega), show d * 3 / 3 = d from by omega]
theorem catR_1 (C : List ByteArray) (d : Nat) : catR C (d * 3 + 1) = cnt (cgR · d) C C.length := by
  unfold catR
  rw [if_neg (by omega), if_pos (by omega), show (d * 3 + 1) / 3 = d from by omega]
theorem catR_2 (C : List ByteArray) (d : Nat) : catR C (d * 3 + 2) = cnt (agR · d) C C.length := by
  unfold catR
  rw [if_neg (by omega), if_neg (by omega), show (d * 3 + 2) / 3 = d from by omega]
theorem row_snoc3 (F : Nat → Nat) (j : Nat) {a b c : Nat} (ha : F (j * 3) = a) (hb : F (j * 3 + 1) = b) (hc : F (j * 3 + 2) = c) : ints (rowZ F ((j + 1) * 3)) = ints (rowZ F (j * 3)) ++ [.int .i64 (a : Int), .int .i64 (b : Int), .int .i64 (c : Int)] := by
  rw [show (j + 1) * 3 = j * 3 + 1 + 1 + 1 from by omega, rowZ_snoc, rowZ_snoc, rowZ_snoc, show j * 3 + 1 + 1 = j * 3 + 2 from rfl, ha, hb, hc]
  simp
def catD (C : List ByteArray) : List Value := if vhE C = 0 then ints (rowZ (catR C) (D0 C * 3)) else []
def CadPost (C : List ByteArray) (w : World) (e : Ending) (w' : World) : Prop := ∃ A' c', e = .returned (.tuple #[.slice A' (catN C) c', .int .i64 (vhE C)]) ∧ Rd w' w'.heap.size A' (catD C) ∧ Below w.heap.size w w'
end Go.Proofs.YtegehfcnclpdeabDoor

/-
  What opens the arguments of a row that lists no table.
-/
import Derived.Test.YtfokmgogbjifbaaRows
import Derived.Test.YtfokmgogbjifbaaPost
import Derived.Test.YtfokmgogbjifbaaWi3
namespace Go.Proofs.Ytfokmgogbjifbaa
open Go.RowKit
set_option linter.unusedVariables false

theorem own : ownKnob Try.prog.godebug = none := by kernel_rfl
theorem laidOut : laidOutB Try.prog = true := by kernel_rfl
theorem cInt : Try.prog.cellsOf 3 = 1 := by kernel_rfl
theorem cA : Try.prog.cellsOf 37 = 2 := by kernel_rfl
theorem arc_row {H : Type} {enc : TypeId × Value → H} {w : World} (n : Nat) (cs : List Value) (y : DataW H × List MemPlace) (h : DataW.trod enc Try.prog w 0 (fun _ => true) true n 37 cs = some y) : ∃ p, cs = Pt.cells p ∧ GoodP p :=
  pt_of Try.underlying37 rfl rfl cInt cInt cA Try.underlying3 Try.underlying3 h
end Go.Proofs.Ytfokmgogbjifbaa

/-
  How the arguments of the screen's laws are opened. No condition.
-/
import Derived.Test.YtcefcpplkcebjaaPnt
import Derived.Test.YtcefcpplkcebjaaProg
import Derived.Test.YtcefcpplkcebjaaRows
import Derived.Test.YtcefcpplkcebjaaPost
namespace Go.Proofs.Ytcefcpplkcebjaa
open Go.RowKit
set_option linter.unusedVariables false

theorem own : ownKnob Try.prog.godebug = none := by kernel_rfl
theorem laidOut : laidOutB Try.prog = true := by kernel_rfl
theorem cI : Try.prog.cellsOf 3 = 1 := by kernel_rfl
theorem cP : Try.prog.cellsOf 23 = 2 := by kernel_rfl
theorem cS : Try.prog.cellsOf 71 = 4 := by kernel_rfl
theorem cL : Try.prog.cellsOf 25 = 4 := by kernel_rfl
theorem pt_row {H : Type} {enc : TypeId × Value → H} {w : World} (n : Nat) (cs : List Value) (y : DataW H × List MemPlace) (h : DataW.trod enc Try.prog w 0 (fun _ => true) true n 23 cs = some y) : ∃ p, cs = Pt.cells p ∧ GoodP p :=
  pt_of Try.underlying23 rfl rfl cI cI cP Try.underlying3 Try.underlying3 h
theorem sg_row {H : Type} {enc : TypeId × Value → H} {w : World} (n : Nat) (cs : List Value) (y : DataW H × List MemPlace) (h : DataW.trod enc Try.prog w 0 (fun _ => true) true n 71 cs = some y) : ∃ s, cs = Sg.cells s ∧ GoodS s :=
  sg_of Try.underlying71 rfl rfl rfl rfl cS Try.underlying23 rfl rfl cI cI cP Try.underlying3 Try.underlying3 h
theorem ln_row {H : Type} {enc : TypeId × Value → H} {w : World} (n : Nat) (cs : List Value) (y : DataW H × List MemPlace) (h : DataW.trod enc Try.prog w 0 (fun _ => true) true n 25 cs = some y) : ∃ s, cs = Sg.cells s ∧ GoodS s :=
  sg_of Try.underlying25 rfl rfl rfl rfl cL Try.underlying23 rfl rfl cI cI cP Try.underlying3 Try.underlying3 h
end Go.Proofs.Ytcefcpplkcebjaa

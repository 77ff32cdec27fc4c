/-
  The walks of the laws RingTimes, RingGroups, RingSums: each returns true. Conditions: 'Tabs'.
-/
import Derived.Test.YtjpnpbnhkljciaaDoorKno
namespace Go.Proofs.YtjpnpbnhkljciaaDoor
open Go.RowKit
set_option linter.unusedVariables false

theorem RingTimes_walk (x y n : Int) (w : World) (ht : Tabs w) :
    Calls Tryd.prog 3 #[.int .i64 x, .int .i64 y, .int .i64 n] w fun e w' => e = .returned (.bool true) ∧ Below w.heap.size w w' := by
  have HT := Lib.hid ht
  clear ht
  have C1 := Lib.hid (Times_any x y w HT.out)
  have C2 := Lib.hid (rTimes_any x y w)
  have C3 := Lib.hid (Undo_any x w HT.out)
  have C4 := Lib.hid (rUndo_any x w)
  have C5 := Lib.hid (Turn_any x n w HT.out)
  have C6 := Lib.hid (rTurn_any x n w)
  generalize timesV x y = a at *
  generalize timesE x y = b at *
  generalize undoV x = c at *
  generalize undoE x = d at *
  generalize turnV x n = f at *
  generalize turnE x n = g at *
  go_enter Tryd.func3, Tryd.ntmps3
  go_wp2_with (first
    | (go_at_call 15; refine C1.out.mono ?_; rintro e w' ⟨rfl, rfl⟩)
    | (go_at_call 16; refine C2.out.mono ?_; rintro e w' ⟨rfl, rfl⟩)
    | (go_at_call 17; refine C3.out.mono ?_; rintro e w' ⟨rfl, rfl⟩)
    | (go_at_call 18; refine C4.out.mono ?_; rintro e w' ⟨rfl, rfl⟩)
    | (go_at_call 19; refine C5.out.mono ?_; rintro e w' ⟨rfl, rfl⟩)
    | (go_at_call 20; refine C6.out.mono ?_; rintro e w' ⟨rfl, rfl⟩)
    | (go_at_call 21; refine (known_ok w HT.out).mono ?_; rintro e w' ⟨rfl, hb⟩))
  go_ret
  exact ⟨rfl, hb⟩
end Go.Proofs.YtjpnpbnhkljciaaDoor

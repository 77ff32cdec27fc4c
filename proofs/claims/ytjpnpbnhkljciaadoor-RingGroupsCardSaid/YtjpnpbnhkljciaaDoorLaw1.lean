/-
  The walks of the laws RingTimes, RingGroups, RingSums: each returns true. Conditions: 'Tabs'.
-/
import Derived.Test.YtjpnpbnhkljciaaDoorKno
namespace Go.Proofs.YtjpnpbnhkljciaaDoor
open Go.RowKit
set_option linter.unusedVariables false

theorem RingTimes_walk (x y n : Int) (w : World) (ht : Tabs w) :
    Calls Tryd.prog 3 #[.int .i64 x, .int .i64 y, .int .i64 n] w fun e w' => e = .returned (.bool true) ∧ Below w.heap.size w w' := by
  have HT := Lib.hid ht
  clear ht
  have C1 := Lib.hid (Times_any x y w HT.out)
  have C2 := Lib.hid (rTimes_any x y w)
  have C3 := Lib.hid (Undo_any x w HT.out)
  have C4 := Lib.hid (rUndo_any x w)
  have C5 := Lib.hid (Turn_any x n w HT.out)
  have C6 := Lib.hid (rTurn_any x n w)
  generalize timesV x y = a at *
  generalize timesE x y = b at *
  generalize undoV x = c at *
  generalize undoE x = d at *
  generalize turnV x n = f at *
  generalize turnE x n = g at *
  go_enter Tryd.func3, Tryd.ntmps3
  go_wp2_with (first
    | (go_at_call 15; refine C1.out.mono ?_; rintro e w' ⟨rfl, rfl⟩)
    | (go_at_call 16; refine C2.out.mono ?_; rintro e w' ⟨rfl, rfl⟩)
    | (go_at_call 17; refine C3.out.mono ?_; rintro e w' ⟨rfl, rfl⟩)
    | (go_at_call 18; refine C4.out.mono ?_; rintro e w' ⟨rfl, rfl⟩)
    | (go_at_call 19; refine C5.out.mono ?_; rintro e w' ⟨rfl, rfl⟩)
    | (go_at_call 20; refine C6.out.mono ?_; rintro e w' ⟨rfl, rfl⟩)
    | (go_at_call 21; refine (known_ok w HT.out).mono ?_; rintro e w' ⟨rfl, hb⟩))
  go_ret
  exact ⟨rfl, hb⟩
theorem RingGroups_walk (x y z : Int) (w : World) (ht : Tabs w) :
    Calls Tryd.prog 4 #[.int .i64 x, .int .i64 y, .int .i64 z] w fun e w' => e = .returned (.bool true) ∧ Below w.heap.size w w' := by
  have HT := Lib.hid ht
  clear ht
  by_cases h1 : (isDig x && isDig y) = true
  · by_cases h2 : (isDig y && isDig z) = true
    · have d1 : isDig x = true ∧ isDig y = true := by simpa using h1
      have d2 : isDig y = true ∧ isDig z = true := by simpa using h2
      have dx := isDig_iff.1 d1.1
      have dy := isDig_iff.1 d1.2
      have dz := isDig_iff.1 d2.2
      have C1 := Lib.hid (Times_ok x y w dx dy HT.out)
      have C2 := Lib.hid (Times_ok y z w dy dz HT.out)
      have C3 := Lib.hid (Times_ok _ z w (dig_mul dx dy) dz HT.out)
      have C4 := Lib.hid (Times_ok x _ w dx (dig_mul dy dz) HT.out)
      have C5 := Lib.hid (Undo_any x w HT.out)
      have C6 := Lib.hid (Times_ok _ _ w (dig_inv dx) (dig_mul dx dy) HT.out)
      have C7 := Lib.hid (Times_ok x _ w dx (dig_inv dx) HT.out)
      rw [mul_assoc' dx dy dz] at C3
      rw [← mul_assoc' (dig_inv dx) dx dy, inv_mul dx, one_mul' dy] at C6
      rw [mul_inv dx] at C7
      rw [undoV, undoE, if_pos d1.1, if_pos d1.1] at C5
      clear h1 h2 d1 d2 dx dy dz
      generalize mulD x y = a at *
      generalize mulD y z = b at *
      generalize mulD x b = c at *
      generalize invD x = i at *
      go_enter Tryd.func4, Tryd.ntmps4
      go_wp2_with fail
      refine C1.out.mono ?_
      rintro e w' ⟨rfl, rfl⟩
      go_wp2_with fail
      refine C2.out.mono ?_
      rintro e w' ⟨rfl, rfl⟩
      go_wp2_with fail
      refine C3.out.mono ?_
      rintro e w' ⟨rfl, rfl⟩
      go_wp2_with fail
      refine C4.out.mono ?_
      rintro e w' ⟨rfl, rfl⟩
      go_wp2_with fail
      refine C5.out.mono ?_
      rintro e w' ⟨rfl, rfl⟩
      go_wp2_with fail
      refine C6.out.mono ?_
      rintro e w' ⟨rfl, rfl⟩
      go_wp2_with fail
      refine C7.out.mono ?_
      rintro e w' ⟨rfl, rfl⟩
      go_wp2_with fail
      refine (known_ok w HT.out).mono ?_
      rintro e w' ⟨rfl, hb⟩
      go_wp2_with fail
      go_ret
      exact ⟨rfl, hb⟩
    · have C1 := Lib.hid (Times_any x y w HT.out)
      have C2 := Lib.hid (Times_any y z w HT.out)
      rw [timesV, timesE, if_pos h1, if_pos h1] at C1
      rw [timesV, timesE, if_neg h2, if_neg h2] at C2
      clear h1 h2
      generalize mulD x y = a at *
      go_enter Tryd.func4, Tryd.ntmps4
      go_wp2_with fail
      refine C1.out.mono ?_
      rintro e w' ⟨rfl, rfl⟩
      go_wp2_with fail
      refine C2.out.mono ?_
      rintro e w' ⟨rfl, rfl⟩
      go_wp2_with fail
      refine (known_ok w HT.out).mono ?_
      rintro e w' ⟨rfl, hb⟩
      go_wp2_with fail
      go_ret
      exact ⟨rfl, hb⟩
  · have C1 := Lib.hid (Times_any x y w HT.out)
    have C2 := Lib.hid (Times_any y z w HT.out)
    rw [timesV, timesE, if_neg h1, if_neg h1] at C1
    clear h1
    generalize timesV y z = a at *
    generalize timesE y z = b at *
    go_enter Tryd.func4, Tryd.ntmps4
    go_wp2_with fail
    refine C1.out.mono ?_
    rintro e w' ⟨rfl, rfl⟩
    go_wp2_with fail
    refine C2.out.mono ?_
    rintro e w' ⟨rfl, rfl⟩
    go_wp2_with fail
    refine (known_ok w HT.out).mono ?_
    rintro e w' ⟨rfl, hb⟩
    go_wp2_with fail
    go_ret
    exact ⟨rfl, hb⟩
end Go.Proofs.YtjpnpbnhkljciaaDoor

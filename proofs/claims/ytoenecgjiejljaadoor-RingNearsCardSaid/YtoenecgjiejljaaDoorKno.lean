/-
  The walks of the reference's CheckDigit and of 'known', the document's examples. Conditions: 'TabsR'.
-/
import Derived.Test.YtoenecgjiejljaaDoorRck
namespace Go.Proofs.YtoenecgjiejljaaDoor
open Go.RowKit
set_option linter.unusedVariables false

theorem Times_51 (w : World) (ht : TabsR w) : Calls Tryd.prog 49 #[.int .i64 5, .int .i64 1] w fun e w' => e = .returned (.tuple #[.int .i64 9, .int .i64 0]) ∧ w = w' :=
  Times_ok 5 1 w ⟨by decide, by decide⟩ ⟨by decide, by decide⟩ ht
theorem Times_15 (w : World) (ht : TabsR w) : Calls Tryd.prog 49 #[.int .i64 1, .int .i64 5] w fun e w' => e = .returned (.tuple #[.int .i64 6, .int .i64 0]) ∧ w = w' :=
  Times_ok 1 5 w ⟨by decide, by decide⟩ ⟨by decide, by decide⟩ ht
theorem Check_236 (w : World) (ht : TabsR w) : Calls Tryd.prog 35 #[.slice (some ⟨w.heap.size, 0, none⟩) 3 3] (w.alloc (.cells #[.int .i64 2, .int .i64 3, .int .i64 6] 3)) fun e w' => e = .returned (.tuple #[.int .i64 3, .int .i64 0]) ∧ Below w.heap.size w w' := by
  have hb : Below w.heap.size w (w.alloc (.cells #[.int .i64 2, .int .i64 3, .int .i64 6] 3)) := (Below.refl _ _).alloc (Nat.le_refl _) _
  refine (CheckDigit_any _ 3 [2, 3, 6] _ (Rd.lit w (ints [2, 3, 6]) 3) (by decide) (ht.below' hb)).mono ?_
  rintro e w' ⟨rfl, hb'⟩
  have e1 : chkV [2, 3, 6] = 3 := by decide +kernel
  have e2 : digE [2, 3, 6] 11 = 0 := by decide +kernel
  exact ⟨by rw [e1, e2], hb.trans (hb'.mono (by simp))⟩
theorem known_ok (w : World) (ht : TabsR w) : Calls Tryd.prog 13 #[] w fun e w' => e = .returned (.bool true) ∧ Below w.heap.size w w' := by
  have HT := Lib.hid ht
  clear ht
  go_enter Tryd.func13, Tryd.ntmps13
  go_wp2_with fail
  refine (Times_51 w HT.out).mono ?_
  rintro e w' ⟨rfl, rfl⟩
  go_wp2_with fail
  refine (Times_15 w HT.out).mono ?_
  rintro e w' ⟨rfl, rfl⟩
  go_wp2_with fail
  refine (Check_236 w HT.out).mono ?_
  rintro e w' ⟨rfl, hb⟩
  go_wp2_with fail
  go_ret
  exact ⟨rfl, hb⟩
end Go.Proofs.YtoenecgjiejljaaDoor

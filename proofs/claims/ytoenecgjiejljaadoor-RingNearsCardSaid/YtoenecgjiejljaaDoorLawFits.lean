/-
  The walk of the law RingFits: it returns true. Condition: 'TabsR'.
-/
import Derived.Test.YtoenecgjiejljaaDoorFit
import Derived.Test.YtoenecgjiejljaaDoorKno
namespace Go.Proofs.YtoenecgjiejljaaDoor
open Go.RowKit
set_option linter.unusedVariables false

theorem long_any (s : ByteArray) (w : World) (hsz : s.size ≤ 9223372036854775807) :
    Calls Tryd.prog 12 #[.string s] w fun e w' => e = .returned (.bool (decide (200 < (s.size : Int)))) ∧ w = w' := by
  go_enter Tryd.func12, Tryd.ntmps12
  go_wp2
  go_ret
  exact ⟨rfl, rfl⟩
theorem long_is (s : ByteArray) (b : Bool) (w : World) (hsz : s.size ≤ 9223372036854775807) (h : decide (200 < s.size) = b) :
    Calls Tryd.prog 12 #[.string s] w fun e w' => e = .returned (.bool b) ∧ w = w' := by
  subst h
  have e : decide (200 < s.size) = decide (200 < (s.size : Int)) := by
    by_cases h : 200 < s.size
    · rw [decide_eq_true h, decide_eq_true (by omega)]
    · rw [decide_eq_false h, decide_eq_false (by omega)]
  rw [e]
  exact long_any s w hsz
end Go.Proofs.YtoenecgjiejljaaDoor

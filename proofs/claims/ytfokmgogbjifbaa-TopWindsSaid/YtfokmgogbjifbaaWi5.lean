/-
  The walks of open, Turn, Mirror of the reference. No condition.
-/
import Derived.Test.YtfokmgogbjifbaaWi4
import Derived.Laws.CopyOwn
namespace Go.Proofs.Ytfokmgogbjifbaa
open Go.RowKit
set_option linter.unusedVariables false

theorem half_bit {x k : Nat} : ((((x / 2 ^ k : Nat)) : Int) % 2 == 1) = x.testBit k := by
  have h := bit_div (n := x) (j := k)
  generalize x / 2 ^ k = y at *
  cases hb : x.testBit k
  · rw [hb, if_neg (by decide)] at h
    exact beq_eq_false_iff_ne.2 (by omega)
  · rw [hb, if_pos rfl] at h
    exact beq_iff_eq.2 (by omega)
theorem half_next (x k : Nat) : x / 2 ^ k / 2 = x / 2 ^ (k + 1) := by rw [Nat.div_div_eq_div_mul, ← Nat.pow_succ]
end Go.Proofs.Ytfokmgogbjifbaa

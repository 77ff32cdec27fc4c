/-
  The walks of Arcs of the reference, of SameArcs. No condition.
-/
import Derived.Test.YtfokmgogbjifbaaWi8
import Derived.Deep.QuietTactic
import Derived.BigQuiet
namespace Go.Proofs.Ytfokmgogbjifbaa
open Go.RowKit
set_option linter.unusedVariables false

def eqP (a b : Pt) : Bool := a.x == b.x && a.y == b.y
theorem fields_arc : ∃ f0 f1 : Field, Try.prog.fieldsOf 37 = #[f0, f1] ∧ f0.type = 3 ∧ f1.type = 3 ∧ f0.offset = 0 ∧ f1.offset = 1 ∧ f0.name = "From" ∧ f1.name = "Width" := by
  have ht : Try.prog.underlying 37 = some (.struct (Try.prog.fieldsOf 37)) := by kernel_rfl
  have h := Try.underlying37.symm.trans ht
  injection h with h
  injection h with h
  exact ⟨_, _, h.symm, rfl, rfl, rfl, rfl, rfl, rfl⟩
theorem eq_in (a b : Pt) (W : World) : (Op.equalIn 10000 37 (.agg #[.int .i64 a.x, .int .i64 a.y]) (.agg #[.int .i64 b.x, .int .i64 b.y])).run Try.prog W = .ok (eqP a b) W := by
  have ht : Try.prog.underlying 37 = some (.struct (Try.prog.fieldsOf 37)) := by kernel_rfl
  have hp : Try.prog.stoodInHeld 37 = false := by kernel_rfl
  rw [run_equalIn_struct _ _ _ _ _ ht hp]
  obtain ⟨f0, f1, hf, t0, t1, o0, o1, n0, n1⟩ := fields_arc
  rw [hf]
  have hi := Try.underlying3
  simp [Op.eqFields, t0, t1, o0, o1, n0, n1, go_sem, hi]
  by_cases h1 : a.x = b.x <;> by_cases h2 : a.y = b.y <;> simp [eqP, h1, h2]
theorem ne_pts (a b : Pt) (W : World) : (binOp .neq 37 (.agg #[.int .i64 a.x, .int .i64 a.y]) (.agg #[.int .i64 b.x, .int .i64 b.y])).run Try.prog W = .ok (.bool (!eqP a b)) W := by
  rw [run_neq_struct, eq_in]
  rfl
theorem guard_arc : Try.prog.eqGuardType Try.prog.depth 37 = false := by kernel_rfl
/-! ### The document's side -/
end Go.Proofs.Ytfokmgogbjifbaa

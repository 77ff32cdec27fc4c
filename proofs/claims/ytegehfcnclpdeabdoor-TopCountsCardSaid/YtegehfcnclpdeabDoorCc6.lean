/-
  Fractions that are one; the walk of known.
-/
import Derived.Test.YtegehfcnclpdeabDoorCc5
namespace Go.Proofs.YtegehfcnclpdeabDoor
open Go.RowKit
set_option linter.unusedVariables false

theorem lt_of_blk {w : World} {g : Nat} {x : Obj} (h : w.heap[g]? = some x) : g < w.heap.size := (Array.getElem?_eq_some_iff.1 h).1
theorem blk_up {w : World} {o : Obj} {g : Nat} {x : Obj} (h : w.heap[g]? = some x) : (w.alloc o).heap[g]? = some x := (((Below.refl w.heap.size w).alloc (Nat.le_refl _) o).block _ (lt_of_blk h)).trans h
theorem fields_rat : ∃ f0 f1 : Field, Tryd.prog.fieldsOf 31 = #[f0, f1] ∧ f0.type = 3 ∧ f1.type = 3 ∧ f0.offset = 0 ∧ f1.offset = 1 ∧ f0.name = "Num" ∧ f1.name = "Den" := by
  have ht : Tryd.prog.underlying 31 = some (.struct (Tryd.prog.fieldsOf 31)) := by kernel_rfl
  have h := Tryd.underlying31.symm.trans ht
  injection h with h
  injection h with h
  exact ⟨_, _, h.symm, rfl, rfl, rfl, rfl, rfl, rfl⟩
theorem rat_in (a b : Int) (W : World) : (Op.equalIn 10000 31 (.agg #[.int .i64 a, .int .i64 b]) (.agg #[.int .i64 a, .int .i64 b])).run Tryd.prog W = .ok true W := by
  have ht : Tryd.prog.underlying 31 = some (.struct (Tryd.prog.fieldsOf 31)) := by kernel_rfl
  have hp : Tryd.prog.stoodInHeld 31 = false := by kernel_rfl
  rw [run_equalIn_struct _ _ _ _ _ ht hp]
  obtain ⟨f0, f1, hf, t0, t1, o0, o1, n0, n1⟩ := fields_rat
  rw [hf]
  have hi := Tryd.underlying3
  simp [Op.eqFields, t0, t1, o0, o1, n0, n1, go_sem, hi]
theorem rat_ne (a b : Int) (W : World) : (binOp .neq 31 (.agg #[.int .i64 a, .int .i64 b]) (.agg #[.int .i64 a, .int .i64 b])).run Tryd.prog W = .ok (.bool false) W := by
  rw [run_neq_struct, rat_in]
  rfl
theorem rat_eq (a b : Int) (W : World) : (binOp .eql 31 (.agg #[.int .i64 a, .int .i64 b]) (.agg #[.int .i64 a, .int .i64 b])).run Tryd.prog W = .ok (.bool true) W := by
  rw [run_eql_struct, rat_in]
  rfl
theorem guard_rat : Tryd.prog.eqGuardType Tryd.prog.depth 31 = false := by kernel_rfl
theorem kBest (w : World) : Calls Tryd.prog 5 #[.int .i64 4, .int .i64 5, .int .i64 2] w fun e w' => e = .returned (.tuple #[.int .i64 9, .bool true, .int .i64 0]) ∧ Below w.heap.size w w' := by
  have h := Best_any 4 5 2 w
  rw [show beV 4 5 2 = 9 by decide +kernel, show beK 4 5 2 = true by decide +kernel, show beE 4 5 2 = 0 by decide +kernel] at h
  exact h
end Go.Proofs.YtegehfcnclpdeabDoor

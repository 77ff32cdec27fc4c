/-
  Fractions that are one; the walk of known.
-/
import Derived.Test.YtegehfcnclpdeaaDoorCc5
namespace Go.Proofs.YtegehfcnclpdeaaDoor
open Go.RowKit
set_option linter.unusedVariables false

theorem lt_of_blk {w : World} {g : Nat} {x : Obj} (h : w.heap[g]? = some x) : g < w.heap.size := (Array.getElem?_eq_some_iff.1 h).1
theorem blk_up {w : World} {o : Obj} {g : Nat} {x : Obj} (h : w.heap[g]? = some x) : (w.alloc o).heap[g]? = some x := (((Below.refl w.heap.size w).alloc (Nat.le_refl _) o).block _ (lt_of_blk h)).trans h
theorem fields_rat : ∃ f0 f1 : Field, Tryd.prog.fieldsOf 26 = #[f0, f1] ∧ f0.type = 3 ∧ f1.type = 3 ∧ f0.offset = 0 ∧ f1.offset = 1 ∧ f0.name = "Num" ∧ f1.name = "Den" := by
  have ht : Tryd.prog.underlying 26 = some (.struct (Tryd.prog.fieldsOf 26)) := by kernel_rfl
  have h := Tryd.underlying26.symm.trans ht
  injection h with h
  injection h with h
  exact ⟨_, _, h.symm, rfl, rfl, rfl, rfl, rfl, rfl⟩
theorem rat_in (a b : Int) (W : World) : (Op.equalIn 10000 26 (.agg #[.int .i64 a, .int .i64 b]) (.agg #[.int .i64 a, .int .i64 b])).run Tryd.prog W = .ok true W := by
  have ht : Tryd.prog.underlying 26 = some (.struct (Tryd.prog.fieldsOf 26)) := by kernel_rfl
  have hp : Tryd.prog.stoodInHeld 26 = false := by kernel_rfl
  rw [run_equalIn_struct _ _ _ _ _ ht hp]
  obtain ⟨f0, f1, hf, t0, t1, o0, o1, n0, n1⟩ := fields_rat
  rw [hf]
  have hi := Tryd.underlying3
  simp [Op.eqFields, t0, t1, o0, o1, n0, n1, go_sem, hi]
theorem rat_ne (a b : Int) (W : World) : (binOp .neq 26 (.agg #[.int .i64 a, .int .i64 b]) (.agg #[.int .i64 a, .int .i64 b])).run Tryd.prog W = .ok (.bool false) W := by
  rw [run_neq_struct, rat_in]
  rfl
theorem rat_eq (a b : Int) (W : World) : (binOp .eql 26 (.agg #[.int .i64 a, .int .i64 b]) (.agg #[.int .i64 a, .int .i64 b])).run Tryd.prog W = .ok (.bool true) W := by
  rw [run_eql_struct, rat_in]
  rfl
theorem guard_rat : Tryd.prog.eqGuardType Tryd.prog.depth 26 = false := by kernel_rfl
theorem kWays (w : World) : Calls Tryd.prog 8 #[.int .i64 10, .int .i64 4, .int .i64 5, .int .i64 2] w fun e w' => e = .returned (.tuple #[.int .i64 120, .int .i64 0]) ∧ Below w.heap.size w w' := by
  have h := Ways_any 10 4 5 2 w
  rw [show wysV 10 4 5 2 = 120 by decide +kernel, show wysE 10 4 5 2 = 0 by decide +kernel] at h
  exact h
theorem kChance (w : World) : Calls Tryd.prog 9 #[.int .i64 10, .int .i64 4, .int .i64 5, .int .i64 2] w fun e w' => e = .returned (.tuple #[.agg #[.int .i64 10, .int .i64 21], .int .i64 0]) ∧ Below w.heap.size w w' := by
  have h := Chance_any 10 4 5 2 w
  rw [show chV 10 4 5 2 = (10, 21) by decide +kernel, show chE 10 4 5 2 = 0 by decide +kernel] at h
  exact h
theorem kBest (w : World) : Calls Tryd.prog 10 #[.int .i64 4, .int .i64 5, .int .i64 2] w fun e w' => e = .returned (.tuple #[.int .i64 9, .bool true, .int .i64 0]) ∧ Below w.heap.size w w' := by
  have h := Best_any 4 5 2 w
  rw [show beV 4 5 2 = 9 by decide +kernel, show beK 4 5 2 = true by decide +kernel, show beE 4 5 2 = 0 by decide +kernel] at h
  exact h
set_option maxRecDepth 4000 in
set_option maxHeartbeats 1000000 in
theorem known_any (w : World) : Calls Tryd.prog 5 #[] w fun e w' => e = .returned (.bool true) ∧ Below w.heap.size w w' := by
  have B0 := Lib.hid (Below.refl w.heap.size w)
  have q1 := fun W => rat_in 10 21 W
  have q2 := fun W => rat_eq 10 21 W
  have q3 := guard_rat
  go_enter Tryd.func5, Tryd.ntmps5
  go_wp2_with fail
  refine (kWays w).mono ?_
  rintro e w1 ⟨rfl, hb⟩
  have B1 := Lib.hid (B0.out.trans (hb.mono B0.out.size))
  clear hb
  go_wp2_with fail
  refine (kChance w1).mono ?_
  rintro e w2 ⟨rfl, hb⟩
  have B2 := Lib.hid (B1.out.trans (hb.mono B1.out.size))
  clear hb
  have B3 := Lib.hid (B2.out.alloc B2.out.size (.cells #[.int .i64 10, .int .i64 21] 26))
  have gr := heap_alloc_new w2 (.cells #[.int .i64 10, .int .i64 21] 26)
  have r0 := (blk_cell (j := 0) gr).trans (show _ = some (.int .i64 10) from rfl)
  have r1 := (blk_cell (j := 1) gr).trans (show _ = some (.int .i64 21) from rfl)
  have Gr := Lib.hid gr
  clear gr
  go_wp2_with fail
  refine (kBest (w2.alloc (.cells #[.int .i64 10, .int .i64 21] 26))).mono ?_
  rintro e w4 ⟨rfl, hb⟩
  have B4 := Lib.hid (B3.out.trans (hb.mono B3.out.size))
  have gr := (hb.block _ (lt_of_block Gr.out)).trans Gr.out
  clear r0 r1
  have r0 := (blk_cell (j := 0) gr).trans (show _ = some (.int .i64 10) from rfl)
  have r1 := (blk_cell (j := 1) gr).trans (show _ = some (.int .i64 21) from rfl)
  have Gr := Lib.hid gr
  clear hb gr
  go_wp2_with fail
  go_ret
  exact ⟨rfl, B4.out⟩
end Go.Proofs.YtegehfcnclpdeaaDoor

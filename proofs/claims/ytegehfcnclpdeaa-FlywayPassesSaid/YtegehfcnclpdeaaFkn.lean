/-
  The two examples of the document that the laws ask: the walk of known. Every world.
-/
import Derived.Test.YtegehfcnclpdeaaFvl
import Derived.Test.YtegehfcnclpdeaaFsk
namespace Go.Proofs.Ytegehfcnclpdeaa
open Go.RowKit
set_option linter.unusedVariables false

theorem lt_of_blk {w : World} {g : Nat} {x : Obj} (h : w.heap[g]? = some x) : g < w.heap.size := (Array.getElem?_eq_some_iff.1 h).1
theorem blk_up {w : World} {o : Obj} {g : Nat} {x : Obj} (h : w.heap[g]? = some x) : (w.alloc o).heap[g]? = some x := (((Below.refl w.heap.size w).alloc (Nat.le_refl _) o).block _ (lt_of_blk h)).trans h
theorem fields_rat : ∃ f0 f1 : Field, Try.prog.fieldsOf 29 = #[f0, f1] ∧ f0.type = 3 ∧ f1.type = 3 ∧ f0.offset = 0 ∧ f1.offset = 1 ∧ f0.name = "Num" ∧ f1.name = "Den" := by
  have ht : Try.prog.underlying 29 = some (.struct (Try.prog.fieldsOf 29)) := by kernel_rfl
  have h := Try.underlying29.symm.trans ht
  injection h with h
  injection h with h
  exact ⟨_, _, h.symm, rfl, rfl, rfl, rfl, rfl, rfl⟩
theorem rat_in (a b : Int) (W : World) : (Op.equalIn 10000 29 (.agg #[.int .i64 a, .int .i64 b]) (.agg #[.int .i64 a, .int .i64 b])).run Try.prog W = .ok true W := by
  have ht : Try.prog.underlying 29 = some (.struct (Try.prog.fieldsOf 29)) := by kernel_rfl
  have hp : Try.prog.stoodInHeld 29 = false := by kernel_rfl
  rw [run_equalIn_struct _ _ _ _ _ ht hp]
  obtain ⟨f0, f1, hf, t0, t1, o0, o1, n0, n1⟩ := fields_rat
  rw [hf]
  have hi := Try.underlying3
  simp [Op.eqFields, t0, t1, o0, o1, n0, n1, go_sem, hi]
theorem rat_ne (a b : Int) (W : World) : (binOp .neq 29 (.agg #[.int .i64 a, .int .i64 b]) (.agg #[.int .i64 a, .int .i64 b])).run Try.prog W = .ok (.bool false) W := by
  rw [run_neq_struct, rat_in]
  rfl
theorem rat_eq (a b : Int) (W : World) : (binOp .eql 29 (.agg #[.int .i64 a, .int .i64 b]) (.agg #[.int .i64 a, .int .i64 b])).run Try.prog W = .ok (.bool true) W := by
  rw [run_eql_struct, rat_in]
  rfl
theorem guard_rat : Try.prog.eqGuardType Try.prog.depth 29 = false := by kernel_rfl
theorem lit_rows (s : Nat) (a b d : List Int) (w : World) (hs : w.heap.size = s) (ha : a.length = 3) (hb : b.length = 3) (hd : d.length = 3) : ∃ W, (((w.alloc (.cells (ints a).toArray 3)).alloc (.cells (ints b).toArray 3)).alloc (.cells (ints d).toArray 3)).alloc (.cells #[.slice (some ⟨s, 0, none⟩) 3 3, .slice (some ⟨s + 1, 0, none⟩) 3 3, .slice (some ⟨s + 1 + 1, 0, none⟩) 3 3] 39) = W ∧
    RdR W W.heap.size (some ⟨s + 1 + 1 + 1, 0, none⟩) [⟨some ⟨s, 0, none⟩, 3, a⟩, ⟨some ⟨s + 1, 0, none⟩, 3, b⟩, ⟨some ⟨s + 1 + 1, 0, none⟩, 3, d⟩] ∧ Below s w W ∧ W.heap.size = s + 1 + 1 + 1 + 1 := by
  have h1 := heap_alloc_new w (.cells (ints a).toArray 3)
  rw [hs] at h1
  obtain ⟨w1, e1⟩ : ∃ w1, w.alloc (.cells (ints a).toArray 3) = w1 := ⟨_, rfl⟩
  have z1 : w1.heap.size = s + 1 := by rw [← e1]; simp [hs]
  rw [e1] at h1 ⊢
  have h2 := heap_alloc_new w1 (.cells (ints b).toArray 3)
  have h1b := blk_alloc' (o := .cells (ints b).toArray 3) h1
  rw [z1] at h2
  obtain ⟨w2, e2⟩ : ∃ w2, w1.alloc (.cells (ints b).toArray 3) = w2 := ⟨_, rfl⟩
  have z2 : w2.heap.size = s + 1 + 1 := by rw [← e2]; simp [z1]
  rw [e2] at h2 h1b ⊢
  have h3 := heap_alloc_new w2 (.cells (ints d).toArray 3)
  have h1c := blk_alloc' (o := .cells (ints d).toArray 3) h1b
  have h2c := blk_alloc' (o := .cells (ints d).toArray 3) h2
  rw [z2] at h3
  obtain ⟨w3, e3⟩ : ∃ w3, w2.alloc (.cells (ints d).toArray 3) = w3 := ⟨_, rfl⟩
  have z3 : w3.heap.size = s + 1 + 1 + 1 := by rw [← e3]; simp [z2]
  rw [e3] at h3 h1c h2c ⊢
  obtain ⟨O, hO⟩ : ∃ O, (Obj.cells #[.slice (some ⟨s, 0, none⟩) 3 3, .slice (some ⟨s + 1, 0, none⟩) 3 3, .slice (some ⟨s + 1 + 1, 0, none⟩) 3 3] 39) = O := ⟨_, rfl⟩
  have h4 := heap_alloc_new w3 O
  have h1d := blk_alloc' (o := O) h1c
  have h2d := blk_alloc' (o := O) h2c
  have h3d := blk_alloc' (o := O) h3
  rw [z3] at h4
  obtain ⟨w4, e4⟩ : ∃ w4, w3.alloc O = w4 := ⟨_, rfl⟩
  have z4 : w4.heap.size = s + 1 + 1 + 1 + 1 := by rw [← e4]; simp [z3]
  rw [e4] at h4 h1d h2d h3d
  rw [hO, e4]
  refine ⟨w4, rfl, ⟨?_, fun r hr => ?_⟩, ?_, z4⟩
  · have h5 : w4.heap[s + 1 + 1 + 1]? = some (.cells ([⟨some ⟨s, 0, none⟩, 3, a⟩, ⟨some ⟨s + 1, 0, none⟩, 3, b⟩, ⟨some ⟨s + 1 + 1, 0, none⟩, 3, d⟩].map Rw.v).toArray 39 (0, 0)) := by
      rw [h4, ← hO]
      simp [Rw.v, ha, hb, hd]
    exact Rd.of_block h5
  · rcases List.mem_cons.1 hr with rfl | hr
    · exact Rd.of_block h1d
    · rcases List.mem_cons.1 hr with rfl | hr
      · exact Rd.of_block h2d
      · rcases List.mem_cons.1 hr with rfl | hr
        · exact Rd.of_block h3d
        · cases hr
  · rw [← e4, ← e3, ← e2, ← e1]
    exact ((((Below.refl s w).alloc (by omega) _).alloc (by simp; omega) _).alloc (by simp; omega) _).alloc (by simp; omega) _
theorem tm1 : tmV L1 0 = (4, 1) := by
  unfold tmV
  rw [cs1, if_pos rfl]
  exact sol1
theorem ec2 : ecV L2 0 2 = (1, 2) := by
  unfold ecV
  rw [cs2, if_pos rfl]
  exact sol2
theorem lit_ok (A B D : Option Addr) (a b d : List Int) (ha : a.length = 3) (hb : b.length = 3) (hd : d.length = 3) : SzR [⟨A, 3, a⟩, ⟨B, 3, b⟩, ⟨D, 3, d⟩] := by
  intro r hr
  simp at hr
  rcases hr with rfl | rfl | rfl <;> simp [ha, hb, hd]
/-- The first example, with the words that the walk meets. -/
theorem time_lit (s : Nat) (W : World) (hr : RdR W W.heap.size (some ⟨s + 1 + 1 + 1, 0, none⟩) [⟨some ⟨s, 0, none⟩, 3, [1, 1, 0]⟩, ⟨some ⟨s + 1, 0, none⟩, 3, [0, 1, 1]⟩, ⟨some ⟨s + 1 + 1, 0, none⟩, 3, [0, 0, 1]⟩]) :
    Calls Try.prog 34 #[.slice (some ⟨s + 1 + 1 + 1, 0, none⟩) 3 3, .int .i64 0] W fun e w' => e = .returned (.tuple #[.agg #[.int .i64 4, .int .i64 1], .int .i64 0]) ∧ Below W.heap.size W w' := by
  have HT := Time_any (some ⟨s + 1 + 1 + 1, 0, none⟩) _ 3 (lit_ok _ _ _ _ _ _ rfl rfl rfl) (by simp) 0 (fun _ => sok1) W hr
  rw [show tmV (rowsL [⟨some ⟨s, 0, none⟩, 3, [1, 1, 0]⟩, ⟨some ⟨s + 1, 0, none⟩, 3, [0, 1, 1]⟩, ⟨some ⟨s + 1 + 1, 0, none⟩, 3, [0, 0, 1]⟩]) 0 = (4, 1) from tm1, show csE (rowsL [⟨some ⟨s, 0, none⟩, 3, [1, 1, 0]⟩, ⟨some ⟨s + 1, 0, none⟩, 3, [0, 1, 1]⟩, ⟨some ⟨s + 1 + 1, 0, none⟩, 3, [0, 0, 1]⟩]) 0 [] = 0 from cs1] at HT
  exact HT
theorem end_lit (s : Nat) (W : World) (hr : RdR W W.heap.size (some ⟨s + 1 + 1 + 1, 0, none⟩) [⟨some ⟨s, 0, none⟩, 3, [0, 1, 1]⟩, ⟨some ⟨s + 1, 0, none⟩, 3, [0, 1, 0]⟩, ⟨some ⟨s + 1 + 1, 0, none⟩, 3, [0, 0, 1]⟩]) :
    Calls Try.prog 32 #[.slice (some ⟨s + 1 + 1 + 1, 0, none⟩) 3 3, .int .i64 0, .int .i64 2] W fun e w' => e = .returned (.tuple #[.agg #[.int .i64 1, .int .i64 2], .int .i64 0]) ∧ Below W.heap.size W w' := by
  have HT := EndChance_any (some ⟨s + 1 + 1 + 1, 0, none⟩) _ 3 (lit_ok _ _ _ _ _ _ rfl rfl rfl) (by simp) 0 2 (fun _ => sok2) W hr
  rw [show ecV (rowsL [⟨some ⟨s, 0, none⟩, 3, [0, 1, 1]⟩, ⟨some ⟨s + 1, 0, none⟩, 3, [0, 1, 0]⟩, ⟨some ⟨s + 1 + 1, 0, none⟩, 3, [0, 0, 1]⟩]) 0 2 = (1, 2) from ec2, show csE (rowsL [⟨some ⟨s, 0, none⟩, 3, [0, 1, 1]⟩, ⟨some ⟨s + 1, 0, none⟩, 3, [0, 1, 0]⟩, ⟨some ⟨s + 1 + 1, 0, none⟩, 3, [0, 0, 1]⟩]) 0 [2] = 0 from cs2] at HT
  exact HT
set_option maxRecDepth 8000 in
set_option maxHeartbeats 2000000 in
theorem known_any (w : World) : Calls Try.prog 15 #[] w fun e w' => e = .returned (.bool true) ∧ Below w.heap.size w w' := by
  obtain ⟨s, hS⟩ : ∃ s, w.heap.size = s := ⟨_, rfl⟩
  have HS := Lib.hid hS
  obtain ⟨W, hW, hr, hb, hz⟩ := lit_rows s [1, 1, 0] [0, 1, 1] [0, 0, 1] w hS rfl rfl rfl
  have HT := Lib.hid (time_lit s W hr)
  have HW := Lib.hid hW
  have HB := Lib.hid hb
  simp only [ints, List.map_cons, List.map_nil] at HW
  clear hr hW hb
  go_enter Try.func15, Try.ntmps15
  go_wp2_with fail
  rw [HW.out]
  refine HT.out.mono ?_
  rintro e w1 ⟨rfl, b1⟩
  have B1 := Lib.hid b1
  clear b1 HT HW
  obtain ⟨r, hr1⟩ : ∃ r, w1.heap.size = r := ⟨_, rfl⟩
  have HR := Lib.hid hr1
  have ga := heap_alloc_new w1 (.cells #[.int .i64 4, .int .i64 1] 29)
  obtain ⟨w2, e2⟩ : ∃ w2, w1.alloc (.cells #[.int .i64 4, .int .i64 1] 29) = w2 := ⟨_, rfl⟩
  have z2 : w2.heap.size = r + 1 := by rw [← e2]; simp [hr1]
  rw [e2, hr1] at ga
  have BW : Below s w w1 := HB.out.trans (B1.out.mono (by rw [hz]; omega))
  have B2 := Lib.hid (show Below s w w2 by rw [← e2]; exact BW.alloc (by rw [← hS]; exact Below.size (hS ▸ BW)) _)
  obtain ⟨W3, hW, hr, hb, hz3⟩ := lit_rows (r + 1) [0, 1, 1] [0, 1, 0] [0, 0, 1] w2 z2 rfl rfl rfl
  have HT := Lib.hid (end_lit (r + 1) W3 hr)
  have HW := Lib.hid hW
  have B3 := Lib.hid (B2.out.trans (hb.mono (show s ≤ r + 1 by have := Below.size (hS ▸ BW); omega)))
  simp only [ints, List.map_cons, List.map_nil] at HW
  have ga3 := (hb.block _ (by omega)).trans ga
  have Ga := Lib.hid ga3
  have E2 := Lib.hid e2
  clear hr hW hb ga ga3
  go_wp2_with fail
  rw [HW.out]
  refine HT.out.mono ?_
  rintro e w4 ⟨rfl, b4⟩
  have B4 := Lib.hid (B3.out.trans (b4.mono (show s ≤ W3.heap.size by have := Below.size (hS ▸ B3.out); omega)))
  have gr := (b4.block _ (lt_of_blk Ga.out)).trans Ga.out
  clear b4 HT HW
  have ga := blk_alloc' (o := .cells #[.int .i64 1, .int .i64 2] 29) gr
  have gb := heap_alloc_new w4 (.cells #[.int .i64 1, .int .i64 2] 29)
  have r0 := (blk_cell (j := 0) ga).trans (show _ = some (.int .i64 4) from rfl)
  have r1 := (blk_cell (j := 1) ga).trans (show _ = some (.int .i64 1) from rfl)
  have r2 := (blk_cell (j := 0) gb).trans (show _ = some (.int .i64 1) from rfl)
  have r3 := (blk_cell (j := 1) gb).trans (show _ = some (.int .i64 2) from rfl)
  have q1 := fun W => rat_in 4 1 W
  have q2 := fun W => rat_eq 4 1 W
  have q4 := fun W => rat_in 1 2 W
  have q5 := fun W => rat_eq 1 2 W
  have q3 := guard_rat
  clear ga gb gr
  go_wp2_with fail
  go_ret
  refine ⟨rfl, ?_⟩
  rw [hS]
  exact B4.out.alloc (by have := Below.size (hS ▸ B4.out); omega) _
end Go.Proofs.Ytegehfcnclpdeaa

/-
  How fractions compare: the walks of compareFractions and above. Condition: numbers from 0 on.
-/
import Derived.Test.YtegehfcnclpdeabDoorCb5
namespace Go.Proofs.YtegehfcnclpdeabDoor
open Go.RowKit
set_option linter.unusedVariables false

def rt (n d : Int) : Array Value := #[.int .i64 n, .int .i64 d]
theorem box_rt (w : World) (n d : Int) (t : TypeId) : (w.alloc (.cells (rt n d) t)).cell? ⟨w.heap.size, 0, none⟩ = some (.int .i64 n) ∧ (w.alloc (.cells (rt n d) t)).cell? ⟨w.heap.size, 1, none⟩ = some (.int .i64 d) ∧ Below w.heap.size w (w.alloc (.cells (rt n d) t)) := by
  have hg := heap_alloc_new w (.cells (rt n d) t)
  exact ⟨blk_cell (j := 0) hg, blk_cell (j := 1) hg, (Below.refl _ _).alloc (Nat.le_refl _) _⟩
theorem MulW_any (x y : Nat) (hx : x ≤ 9223372036854775807) (hy : y ≤ 9223372036854775807) (w : World) :
    Calls Tryd.prog 43 #[.int .u64 x, .int .u64 y] w fun e w' => e = .returned (.tuple #[.int .u64 ((x * y / 18446744073709551616 : Nat) : Int), .int .u64 ((x * y % 18446744073709551616 : Nat) : Int)]) ∧ w = w' :=
  Mul64_any x y (by omega) (by omega) w
set_option maxRecDepth 4000 in
set_option maxHeartbeats 1000000 in
theorem compareFractions_any (an ad bn bd : Nat) (h1 : an ≤ 9223372036854775807) (h2 : ad ≤ 9223372036854775807) (h3 : bn ≤ 9223372036854775807) (h4 : bd ≤ 9223372036854775807) (w : World) :
    Calls Tryd.prog 31 #[.agg (rt an ad), .agg (rt bn bd)] w fun e w' => e = .returned (.int .i64 (cmpN (an * bd) (bn * ad))) ∧ Below w.heap.size w w' := by
  obtain ⟨a0, a1, hb0⟩ := box_rt w an ad 31
  obtain ⟨b0, b1, hb1⟩ := box_rt (w.alloc (.cells (rt an ad) 31)) bn bd 31
  have a0' := cell_up (o := .cells (rt bn bd) 31) a0
  have a1' := cell_up (o := .cells (rt bn bd) 31) a1
  have hs : (w.alloc (.cells (rt an ad) 31)).heap.size = w.heap.size + 1 := by simp
  have hB := hb0.trans (hb1.mono hb0.size)
  have hs2 : ((w.alloc (.cells (rt an ad) 31)).alloc (.cells (rt bn bd) 31)).heap.size = w.heap.size + 2 := by simp
  rw [hs] at b0 b1
  have HM1 := Lib.hid (fun w => MulW_any an bd h1 h4 w)
  have HM2 := Lib.hid (fun w => MulW_any bn ad h3 h2 w)
  have HW := Lib.hid (cmp_words (an * bd) (bn * ad))
  have HC1 := Lib.hid (fun w => Compare64_any (an * bd / 18446744073709551616) (bn * ad / 18446744073709551616) w)
  have HC2 := Lib.hid (fun w => Compare64_any (an * bd % 18446744073709551616) (bn * ad % 18446744073709551616) w)
  have HO := Lib.hid (fun w => Or_any (cmpN (an * bd / 18446744073709551616) (bn * ad / 18446744073709551616)) (cmpN (an * bd % 18446744073709551616) (bn * ad % 18446744073709551616)) w)
  generalize cmpN (an * bd / 18446744073709551616) (bn * ad / 18446744073709551616) = q1 at *
  generalize cmpN (an * bd % 18446744073709551616) (bn * ad % 18446744073709551616) = q2 at *
  generalize an * bd / 18446744073709551616 = u1 at *
  generalize an * bd % 18446744073709551616 = v1 at *
  generalize bn * ad / 18446744073709551616 = u2 at *
  generalize bn * ad % 18446744073709551616 = v2 at *
  clear a0 a1 hb0 hb1 hs
  go_enter Tryd.func31, Tryd.ntmps31
  go_wp2_with fail
  refine (HM1.out _).mono ?_
  rintro e w' ⟨rfl, rfl⟩
  go_wp2_with fail
  refine (HM2.out _).mono ?_
  rintro e w' ⟨rfl, rfl⟩
  generalize (w.alloc (.cells (rt an ad) 31)).alloc (.cells (rt bn bd) 31) = W at *
  clear a0' a1' b0 b1
  go_wp2_with fail
  refine (HC1.out _).mono ?_
  rintro e w' ⟨rfl, rfl⟩
  go_wp2_with fail
  refine (HC2.out _).mono ?_
  rintro e w' ⟨rfl, rfl⟩
  go_wp2_with fail
  have HOW := HO.out W
  rw [hs2] at HOW
  refine HOW.mono ?_
  rintro e w' ⟨rfl, hb⟩
  rw [← hs2] at hb
  have B1 := Lib.hid (hB.trans (hb.mono hB.size))
  clear hb hB hs2
  go_wp2_with fail
  go_ret
  exact ⟨by rw [← HW.out]; rfl, B1.out⟩
theorem above_words (x y : Nat) : (decide (y / 18446744073709551616 < x / 18446744073709551616) || (decide (x / 18446744073709551616 = y / 18446744073709551616) && decide (y % 18446744073709551616 < x % 18446744073709551616))) = decide (y < x) := by
  rw [Bool.eq_iff_iff]
  simp only [Bool.or_eq_true, Bool.and_eq_true, decide_eq_true_eq]
  omega
end Go.Proofs.YtegehfcnclpdeabDoor

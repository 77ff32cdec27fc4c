/-
  The ways: binomial of the reference, the method ways, ways of the reference, choices, fits, check of both sides. Condition: all numbers are numbers of birds, where said.
-/
import Derived.Test.YtegehfcnclpdeabDoorCb1
import Derived.Lib.MinMax
import Derived.Deep.QuietTactic
namespace Go.Proofs.YtegehfcnclpdeabDoor
open Go.RowKit
set_option linter.unusedVariables false

theorem cell_keep {w w' : World} {b n i : Nat} {v : Value} (h : w.cell? ⟨b, i, none⟩ = some v) (hb : Below n w w') (hn : b < n) : w'.cell? ⟨b, i, none⟩ = some v := (hb.cell (p := ⟨b, i, none⟩) hn).trans h
theorem bdN {B : Nat} {w w' : World} (h : Below B w w') (n : Nat) : Below B w (w'.drewN n) := ⟨h.os, h.tape, h.output, h.size, h.block⟩
/-- Are all numbers of birds? -/
def allB (L : List Int) : Bool := L.all isB
theorem nums2 (x y : Int) (w : World) : Calls Tryd.prog 12 #[.slice (some ⟨w.heap.size, 0, none⟩) 2 2] (w.alloc (.cells #[.int .i64 x, .int .i64 y] 3)) fun e w' =>
    e = .returned (.bool (allB [x, y])) ∧ Below w.heap.size w w' :=
  (areNumbers_any (some ⟨w.heap.size, 0, none⟩) 2 [x, y] (w.alloc (.cells #[.int .i64 x, .int .i64 y] 3)) (Rd.lit w (ints [x, y]) 3) (by simp)).mono fun _ _ ⟨he, hw⟩ => ⟨he, by rw [← hw]; exact (Below.refl _ _).alloc (Nat.le_refl _) _⟩
theorem nums3 (x y z : Int) (w : World) : Calls Tryd.prog 12 #[.slice (some ⟨w.heap.size, 0, none⟩) 3 3] (w.alloc (.cells #[.int .i64 x, .int .i64 y, .int .i64 z] 3)) fun e w' =>
    e = .returned (.bool (allB [x, y, z])) ∧ Below w.heap.size w w' :=
  (areNumbers_any (some ⟨w.heap.size, 0, none⟩) 3 [x, y, z] (w.alloc (.cells #[.int .i64 x, .int .i64 y, .int .i64 z] 3)) (Rd.lit w (ints [x, y, z]) 3) (by simp)).mono fun _ _ ⟨he, hw⟩ => ⟨he, by rw [← hw]; exact (Below.refl _ _).alloc (Nat.le_refl _) _⟩
theorem nums4 (x y z u : Int) (w : World) : Calls Tryd.prog 12 #[.slice (some ⟨w.heap.size, 0, none⟩) 4 4] (w.alloc (.cells #[.int .i64 x, .int .i64 y, .int .i64 z, .int .i64 u] 3)) fun e w' =>
    e = .returned (.bool (allB [x, y, z, u])) ∧ Below w.heap.size w w' :=
  (areNumbers_any (some ⟨w.heap.size, 0, none⟩) 4 [x, y, z, u] (w.alloc (.cells #[.int .i64 x, .int .i64 y, .int .i64 z, .int .i64 u] 3)) (Rd.lit w (ints [x, y, z, u]) 3) (by simp)).mono fun _ _ ⟨he, hw⟩ => ⟨he, by rw [← hw]; exact (Below.refl _ _).alloc (Nat.le_refl _) _⟩
/-- A recapture, as the program holds it. -/
def rc (b m c a : Int) : Array Value := #[.int .i64 b, .int .i64 m, .int .i64 c, .int .i64 a]
theorem box_rc (w : World) (b m c a : Int) (t : TypeId) : (w.alloc (.cells (rc b m c a) t)).cell? ⟨w.heap.size, 0, none⟩ = some (.int .i64 b) ∧ (w.alloc (.cells (rc b m c a) t)).cell? ⟨w.heap.size, 1, none⟩ = some (.int .i64 m) ∧
    (w.alloc (.cells (rc b m c a) t)).cell? ⟨w.heap.size, 2, none⟩ = some (.int .i64 c) ∧ (w.alloc (.cells (rc b m c a) t)).cell? ⟨w.heap.size, 3, none⟩ = some (.int .i64 a) ∧ Below w.heap.size w (w.alloc (.cells (rc b m c a) t)) := by
  have hg := heap_alloc_new w (.cells (rc b m c a) t)
  exact ⟨blk_cell (j := 0) hg, blk_cell (j := 1) hg, blk_cell (j := 2) hg, blk_cell (j := 3) hg, (Below.refl _ _).alloc (Nat.le_refl _) _⟩
/-- The ways, whatever the numbers. -/
def wN (b m c a : Nat) : Nat := if m ≤ b ∧ c ≤ b then wy b m c a else 0
theorem wN_fit {b m c a : Nat} (hm : m ≤ b) (hc : c ≤ b) : wN b m c a = wy b m c a := if_pos ⟨hm, hc⟩
theorem wI_eq (b m c a : Nat) : bI (m : Int) (a : Int) * bI ((b : Int) - (m : Int)) ((c : Int) - (a : Int)) = wN b m c a := by
  rw [bI_nat]
  unfold wN
  rcases Nat.lt_or_ge b m with h | h
  · rw [if_neg (by omega)]
    rcases Nat.lt_or_ge c a with h1 | h1
    · rw [bI_neg (by omega), Nat.mul_zero]
    · rw [bI_gt (by omega), Nat.mul_zero]
  · rcases Nat.lt_or_ge b c with h2 | h2
    · rw [if_neg (by omega)]
      rcases Nat.lt_or_ge m a with h3 | h3
      · rw [ch_gt h3, Nat.zero_mul]
      · rw [bI_gt (by omega), Nat.mul_zero]
    · rw [if_pos ⟨h, h2⟩]
      unfold wy
      split
      · rename_i h4
        rw [show (b : Int) - (m : Int) = ((b - m : Nat) : Int) by omega, show (c : Int) - (a : Int) = ((c - a : Nat) : Int) by omega, bI_nat]
      · rename_i h4
        rw [bI_neg (by omega), Nat.mul_zero]
theorem wN_le {b m c a : Nat} (hb : b ≤ 60) : wN b m c a ≤ 118264581564861424 := by
  unfold wN
  split
  · rename_i h
    exact Nat.le_trans (wy_le h.1) (ch_small hb c)
  · exact Nat.zero_le _
theorem wI_le {b m c a : Nat} (hb : b ≤ 60) : bI (m : Int) (a : Int) * bI ((b : Int) - (m : Int)) ((c : Int) - (a : Int)) ≤ 118264581564861424 := by
  rw [wI_eq]; exact wN_le hb
end Go.Proofs.YtegehfcnclpdeabDoor

/-
  Sets of points: turned back, mirrored and turned; arrays of 32 that are filled place by place. No program in sight.
-/
import Derived.Test.YtfokmgogbjifbaaWi2
namespace Go.Proofs.Ytfokmgogbjifbaa
open Go.RowKit
set_option linter.unusedVariables false

theorem byN_neg (k : Int) : byN (wrap64 (-k)) = (32 - byN k) % 32 := by
  unfold byN wrap64
  omega
theorem mir_lt {x : Nat} (hx : x < 4294967296) : mirN x < 4294967296 := rot_lt (rev_lt hx)
theorem rot_back {x : Nat} (hx : x < 4294967296) (k : Int) : rotN (rotN x (byN k)) (byN (wrap64 (-k))) = x := by
  have h1 := byN_lt k
  rw [byN_neg]
  refine ext32 (rot_lt (rot_lt hx)) hx fun j hj => ?_
  rw [rot_test (rot_lt hx) (by omega) hj, rot_test hx h1 (by omega)]
  congr 1
  omega
theorem mir_rot {x : Nat} (hx : x < 4294967296) (k : Int) : mirN (rotN x (byN k)) = rotN (mirN x) (byN (wrap64 (-k))) := by
  have h1 := byN_lt k
  rw [byN_neg]
  refine ext32 (mir_lt (rot_lt hx)) (rot_lt (mir_lt hx)) fun j hj => ?_
  rw [mir_test (rot_lt hx) hj, rot_test hx h1 (by omega), rot_test (mir_lt hx) (by omega) hj, mir_test hx (by omega)]
  congr 1
  omega
/-- Filled place by place: the place t gets what g finds there. -/
theorem place_next (f : Nat → Bool) (g : Nat → Nat) (k t : Nat) (b : Bool) (hb : f k = b) (h : ∀ j, j < 32 → (j = t ↔ g j = k)) :
    (bools fun j => upTo f k (g j)).toArray.setIfInBounds t (.bool b) = (bools fun j => upTo f (k + 1) (g j)).toArray := by
  rw [bools_set]
  congr 1
  refine bools_congr fun j hj => ?_
  have := h j hj
  unfold upTo
  by_cases h1 : j = t
  · rw [if_pos h1]
    have h2 := this.1 h1
    simp [h2, hb]
  · rw [if_neg h1]
    have h2 : g j ≠ k := fun e => h1 (this.2 e)
    congr 1
    rw [decide_eq_decide]
    omega
theorem place_all (f : Nat → Bool) (g : Nat → Nat) (hg : ∀ j, j < 32 → g j < 32) : bools (fun j => upTo f 32 (g j)) = bools (fun j => f (g j)) := bools_congr fun j hj => by simp [upTo, hg j hj]
theorem place_none (f : Nat → Bool) (g : Nat → Nat) : bools (fun j => upTo f 0 (g j)) = bools (upTo f 0) := bools_congr fun j hj => by simp [upTo]
theorem rot_bits {x s : Nat} (hx : x < 4294967296) (hs : s < 32) : bitK (fun j => x.testBit ((j + 32 - s) % 32)) 32 = rotN x s :=
  ext32 (bit32 _) (rot_lt hx) fun j hj => by rw [bitK_test _ _ _ hj, rot_test hx hs hj]
theorem mir_bits {x : Nat} (hx : x < 4294967296) : bitK (fun j => x.testBit ((32 - j) % 32)) 32 = mirN x :=
  ext32 (bit32 _) (mir_lt hx) fun j hj => by rw [bitK_test _ _ _ hj, mir_test hx hj]
/-- The numbers that are sets. -/
def setB (n : Int) : Bool := decide (0 ≤ n) && decide (n < 4294967296)
theorem setB_iff {n : Int} : setB n = true ↔ 0 ≤ n ∧ n < 4294967296 := by simp [setB]
def setE (n : Int) : Int := if setB n then 0 else 1
theorem setE_zero {n : Int} : setE n = 0 ↔ setB n = true := by
  unfold setE
  by_cases h : setB n = true
  · simp [h]
  · simp [h]
theorem set_nat {n : Int} (h : setB n = true) : ∃ x : Nat, n = (x : Int) ∧ x < 4294967296 := by
  rw [setB_iff] at h
  exact ⟨n.toNat, by omega, by omega⟩
end Go.Proofs.Ytfokmgogbjifbaa

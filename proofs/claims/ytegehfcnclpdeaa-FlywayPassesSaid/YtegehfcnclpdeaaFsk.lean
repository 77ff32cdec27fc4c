/-
  When equations go well: what is checked of finitely many numbers. Plain arithmetic.
-/
import Derived.Test.YtegehfcnclpdeaaFvk
namespace Go.Proofs.Ytegehfcnclpdeaa
set_option linter.unusedVariables false

theorem jit_out {M : Nat → Nat → Int} {m : Nat} (h : ∀ i p, m < p → M i p = 0) : ∀ k i p, m < p → jit M m k i p = 0
  | 0, i, p, hp => h i p hp
  | k + 1, i, p, hp => by
    show jstep (jit M m k) k m i p = 0
    unfold jstep
    split
    · exact jit_out h k k p hp
    · unfold elimF rawF
      rw [jit_out h k i p hp, jit_out h k k p hp, Int.zero_mul, Int.zero_mul]
      exact Int.zero_tdiv _
def smB (x : Int) : Bool := decide (-1000000000 ≤ x) && decide (x ≤ 1000000000)
def sokB (M : Nat → Nat → Int) (m : Nat) : Bool :=
  ((List.range (m + 1)).all fun k => (List.range m).all fun i => (List.range (m + 1)).all fun p => smB (jit M m k i p)) &&
  ((List.range m).all fun k => (List.range m).all fun i => decide (i = k) || decide (gcdF (rawF (jit M m k i) (jit M m k k) k) (m + 1) ≠ 0)) &&
  ((List.range m).all fun i => decide (jit M m m i i ≠ 0))
theorem SOK.of {M : Nat → Nat → Int} {m : Nat} (h0 : ∀ i p, m < p → M i p = 0) (h : sokB M m = true) : SOK M m := by
  unfold sokB at h
  rw [Bool.and_eq_true, Bool.and_eq_true] at h
  obtain ⟨⟨h1, h2⟩, h3⟩ := h
  refine ⟨fun k i p hk hi => ?_, fun k i hk hi hne => ?_, fun i hi => ?_⟩
  · by_cases hp : m < p
    · rw [jit_out h0 k i p hp]
      exact ⟨by decide, by decide⟩
    · have := List.all_eq_true.1 (List.all_eq_true.1 (List.all_eq_true.1 h1 k (List.mem_range.2 (by omega))) i (List.mem_range.2 hi)) p (List.mem_range.2 (by omega))
      unfold smB at this
      rw [Bool.and_eq_true, decide_eq_true_iff, decide_eq_true_iff] at this
      exact this
  · have := List.all_eq_true.1 (List.all_eq_true.1 h2 k (List.mem_range.2 hk)) i (List.mem_range.2 hi)
    rw [Bool.or_eq_true, decide_eq_true_iff, decide_eq_true_iff] at this
    rcases this with h | h
    · exact absurd h hne
    · exact h
  · exact of_decide_eq_true (List.all_eq_true.1 h3 i (List.mem_range.2 hi))
theorem visM_out (L : List (List Int)) (n : Nat) (cb : Nat → Bool) : ∀ i p, n < p → visM L n cb i p = 0 := fun i p hp => if_pos hp
def L1 : List (List Int) := [[1, 1, 0], [0, 1, 1], [0, 0, 1]]
def L2 : List (List Int) := [[0, 1, 1], [0, 1, 0], [0, 0, 1]]
theorem sok1 : SOK (visM L1 3 (tmC L1)) 3 := SOK.of (visM_out _ _ _) (by decide +kernel)
theorem sok2 : SOK (visM L2 3 (endC L2 2)) 3 := SOK.of (visM_out _ _ _) (by decide +kernel)
theorem sol1 : solN (visM L1 3 (tmC L1)) 3 0 = (4, 1) := by decide +kernel
theorem sol2 : solN (visM L2 3 (endC L2 2)) 3 0 = (1, 2) := by decide +kernel
theorem cs1 : csE L1 0 [] = 0 := by decide +kernel
theorem cs2 : csE L2 0 [2] = 0 := by decide +kernel
end Go.Proofs.Ytegehfcnclpdeaa

/-
  Odds and Chapman of the program, recaptured and Chapman of the reference: the walks. Every argument.
-/
import Derived.Test.YtegehfcnclpdeaaDoorCc5
namespace Go.Proofs.YtegehfcnclpdeaaDoor
open Go.RowKit
set_option linter.unusedVariables false

theorem wy_ne {n m c a : Nat} (h : wy n m c a ≠ 0) : a ≤ c ∧ a ≤ m ∧ c - a ≤ n - m := by
  unfold wy at h
  split at h
  · rename_i h1
    refine ⟨h1, ?_, ?_⟩
    · rcases Nat.lt_or_ge m a with h2 | h2
      · rw [ch_gt h2, Nat.zero_mul] at h; exact absurd rfl h
      · exact h2
    · rcases Nat.lt_or_ge (n - m) (c - a) with h2 | h2
      · rw [ch_gt h2, Nat.mul_zero] at h; exact absurd rfl h
      · exact h2
  · exact absurd rfl h
def odE (b m c a : Int) : Int := if allB [b, m, c, a] = true then (if b - 1 < m ∨ b - 1 < c then 8 else if wN (b - 1).toNat m.toNat c.toNat a.toNat = 0 then 10 else 0) else 1
def odV (b m c a : Int) : Nat × Nat := if odE b m c a = 0 then fr ((b - m) * (b - c)).toNat (b * (b - m - c + a)).toNat else (0, 0)
theorem odE_ok {b m c a : Int} (h : odE b m c a = 0) : ((0 ≤ b ∧ b ≤ 60) ∧ (0 ≤ m ∧ m ≤ 60) ∧ (0 ≤ c ∧ c ≤ 60) ∧ (0 ≤ a ∧ a ≤ 60)) ∧ m ≤ b - 1 ∧ c ≤ b - 1 ∧ a ≤ c ∧ a ≤ m ∧ m + c ≤ b - 1 + a ∧ wN (b - 1).toNat m.toNat c.toNat a.toNat ≠ 0 := by
  unfold odE at h
  split at h
  · rename_i hv
    obtain ⟨hb, hm, hc, ha⟩ := allB4 hv
    refine ⟨⟨hb, hm, hc, ha⟩, ?_⟩
    split at h
    · cases h
    · split at h
      · cases h
      · rename_i h1 h2
        have h3 := h2
        rw [wN_fit (by omega) (by omega)] at h3
        obtain ⟨k1, k2, k3⟩ := wy_ne h3
        exact ⟨by omega, by omega, by omega, by omega, by omega, h2⟩
  · cases h
theorem od_bounds {b m c a : Int} (hb : 0 ≤ b ∧ b ≤ 60) (hm : 0 ≤ m) (hc : 0 ≤ c) (h1 : m ≤ b - 1) (h2 : c ≤ b - 1) (h3 : m + c ≤ b - 1 + a) (h4 : a ≤ m) (h5 : a ≤ c) : (0 < (b - m) * (b - c) ∧ (b - m) * (b - c) ≤ 3600) ∧ 0 < b * (b - m - c + a) ∧ b * (b - m - c + a) ≤ 3600 := by
  have k1 : 0 < (b - m) * (b - c) := Int.mul_pos (by omega) (by omega)
  have k2 : (b - m) * (b - c) ≤ 60 * 60 := Int.mul_le_mul (by omega) (by omega) (by omega) (by omega)
  have k3 : 0 < b * (b - m - c + a) := Int.mul_pos (by omega) (by omega)
  have k4 : b * (b - m - c + a) ≤ 60 * 60 := Int.mul_le_mul (by omega) (by omega) (by omega) (by omega)
  omega
theorem rat0 (w : World) : ∃ W, w.alloc (.cells #[.int .i64 0, .int .i64 0] 26) = W ∧ W.heap[w.heap.size]? = some (.cells #[.int .i64 0, .int .i64 0] 26 (0, 0)) ∧ W.heap.size = w.heap.size + 1 ∧ Below w.heap.size w W :=
  ⟨_, rfl, heap_alloc_new w _, by simp, (Below.refl _ _).alloc (Nat.le_refl _) _⟩
theorem box_lit (w : World) (b m c a : Int) : ((w.alloc (.cells #[.int .i64 b, .int .i64 m, .int .i64 c, .int .i64 a] 47)).cell? ⟨w.heap.size, 0, none⟩ = some (.int .i64 b) ∧ (w.alloc (.cells #[.int .i64 b, .int .i64 m, .int .i64 c, .int .i64 a] 47)).cell? ⟨w.heap.size, 1, none⟩ = some (.int .i64 m) ∧ (w.alloc (.cells #[.int .i64 b, .int .i64 m, .int .i64 c, .int .i64 a] 47)).cell? ⟨w.heap.size, 2, none⟩ = some (.int .i64 c) ∧ (w.alloc (.cells #[.int .i64 b, .int .i64 m, .int .i64 c, .int .i64 a] 47)).cell? ⟨w.heap.size, 3, none⟩ = some (.int .i64 a)) ∧ Below w.heap.size w (w.alloc (.cells #[.int .i64 b, .int .i64 m, .int .i64 c, .int .i64 a] 47)) := by
  obtain ⟨c0, c1, c2, c3, hb⟩ := box_rc w b m c a 47
  exact ⟨⟨c0, c1, c2, c3⟩, hb⟩
def cpE (m c a : Int) : Int := if allB [m, c, a] = true then (if fitB m c a = true then 0 else 8) else 1
def cpV (m c a : Int) : Nat × Nat := if cpE m c a = 0 then fr ((m + 1) * (c + 1) - (a + 1)).toNat (a + 1).toNat else (0, 0)
theorem cp_bounds {m c a : Int} (hm : 0 ≤ m ∧ m ≤ 60) (hc : 0 ≤ c ∧ c ≤ 60) (ha : 0 ≤ a) (h : a ≤ m) : 0 ≤ (m + 1) * (c + 1) - (a + 1) ∧ (m + 1) * (c + 1) ≤ 3721 := by
  have k1 : (m + 1) * 1 ≤ (m + 1) * (c + 1) := Int.mul_le_mul_of_nonneg_left (by omega) (by omega)
  have k2 : (m + 1) * (c + 1) ≤ 61 * 61 := Int.mul_le_mul (by omega) (by omega) (by omega) (by omega)
  omega
end Go.Proofs.YtegehfcnclpdeaaDoor

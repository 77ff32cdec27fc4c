/-
  Ranks, layer by layer: what is found in a round, what is reached behind it, what the list of ranks then holds. No program in sight.
-/
import Derived.Test.YtldepjpalhmpnaaLb3
namespace Go.Proofs.Ytldepjpalhmpnaa
open Go.RowKit
set_option linter.unusedVariables false

def dif (P u : Nat) : Nat := P &&& (18446744073709551615 - u)
theorem dif_test {P u j : Nat} (hP : P < 9223372036854775808) (hu : u < 9223372036854775808) : (dif P u).testBit j = (P.testBit j && !u.testBit j) := by
  have e : 18446744073709551615 - u = 2 ^ 64 - (u + 1) := by omega
  unfold dif
  rw [Nat.testBit_and, e, Nat.testBit_two_pow_sub_succ (show u < 2 ^ 64 by omega)]
  by_cases hj : j < 64
  · rw [decide_eq_true hj, Bool.true_and]
  · have : P.testBit j = false := Nat.testBit_lt_two_pow (Nat.lt_of_lt_of_le (show P < 2 ^ 63 from hP) (Nat.pow_le_pow_right (by omega) (by omega)))
    rw [this, Bool.false_and, Bool.false_and]
theorem dif_le (P u : Nat) : dif P u ≤ P := Nat.and_le_left
theorem i64_andNot_nat (a b : Nat) (ha : a < 9223372036854775808) (hb : b < 9223372036854775808) : bits .andNot .i64 (a : Int) (b : Int) = ((dif a b : Nat) : Int) := by
  have hx : dif a b ≤ a := dif_le a b
  show IntKind.i64.wrap ((BitVec.ofInt 64 (a : Int) &&& ~~~BitVec.ofInt 64 (b : Int)).toNat : Int) = _
  rw [BitVec.toNat_and, BitVec.toNat_not, ofInt_i64 a ha, ofInt_i64 b hb]
  have e : 2 ^ 64 - 1 - b = 18446744073709551615 - b := by omega
  rw [e]
  change IntKind.i64.wrap ((dif a b : Nat) : Int) = _
  rw [IntKind.wrap_i64]
  omega
/-- What is found in round r. -/
def fnd (G : Gm) (goal r : Nat) : Nat := lv G goal (r + 1) &&& (4294967295 - lv G goal r)
/-- The ranks that are given before round r. -/
def rkR (G : Gm) (goal r p : Nat) : Int := if (lv G goal r).testBit p then rkI G goal p else -1
theorem not_at {y : Nat} (hy : y < 4294967296) {j : Nat} (hj : j < 32) : (4294967295 - y).testBit j = !y.testBit j := by
  rw [show (4294967295 - y) = 2 ^ 32 - (y + 1) by omega, Nat.testBit_two_pow_sub_succ hy]
  simp [hj]
theorem not_high {y : Nat} {j : Nat} (hj : 32 ≤ j) : (4294967295 - y).testBit j = false := high_bits (show 4294967295 - y < 2 ^ 32 by omega) hj
section
variable {G : Gm} {goal : Nat}
theorem lv_32 (hg : goal < 2 ^ G.own.length) (h16 : G.own.length ≤ 16) (k : Nat) : lv G goal k < 4294967296 := by
  have h := lv_lt hg k
  have : 2 ^ G.own.length ≤ 2 ^ 16 := Nat.pow_le_pow_right (by omega) h16
  omega
theorem fnd_at (hg : goal < 2 ^ G.own.length) (h16 : G.own.length ≤ 16) (r j : Nat) : (fnd G goal r).testBit j = ((lv G goal (r + 1)).testBit j && !(lv G goal r).testBit j) := by
  unfold fnd
  rw [Nat.testBit_and]
  rcases Nat.lt_or_ge j 32 with h | h
  · rw [not_at (lv_32 hg h16 r) h]
  · rw [not_high h, high_bits (show lv G goal (r + 1) < 2 ^ 32 from lv_32 hg h16 _) h]
    rfl
theorem fnd_lt (hg : goal < 2 ^ G.own.length) (r : Nat) : fnd G goal r < 2 ^ G.own.length := Nat.lt_of_le_of_lt Nat.and_le_left (lv_lt hg _)
theorem fnd_zero (H : Ok G) (hg : goal < 2 ^ G.own.length) : fnd G goal 0 = goal := by
  apply Nat.eq_of_testBit_eq
  intro j
  rw [fnd_at hg H.le, lv_one H]
  show (_ && !(0 : Nat).testBit j) = _
  rw [Nat.zero_testBit]
  simp
theorem goal_sub (H : Ok G) (r : Nat) : sub goal (lv G goal (r + 1)) := by
  have h := lv_mono (G := G) (goal := goal) (show 1 ≤ r + 1 by omega)
  rw [lv_one H] at h
  exact h
theorem fnd_next (H : Ok G) (hg : goal < 2 ^ G.own.length) (r : Nat) : fcN G 0 (lv G goal (r + 1)) &&& (4294967295 - lv G goal (r + 1)) = fnd G goal (r + 1) := by
  unfold fnd
  apply Nat.eq_of_testBit_eq
  intro j
  rw [Nat.testBit_and, Nat.testBit_and]
  have e : lv G goal (r + 1 + 1) = goal ||| fcN G 0 (lv G goal (r + 1)) := rfl
  rw [e, Nat.testBit_or]
  rcases Nat.lt_or_ge j 32 with h | h
  · rw [not_at (lv_32 hg H.le (r + 1)) h]
    cases hj : (lv G goal (r + 1)).testBit j
    · have : goal.testBit j = false := by
        cases hb : goal.testBit j
        · rfl
        · rw [goal_sub H r j hb] at hj; cases hj
      rw [this, Bool.false_or]
    · simp
  · rw [not_high h]; simp
theorem lv_fnd (hg : goal < 2 ^ G.own.length) (h16 : G.own.length ≤ 16) (r : Nat) : lv G goal r ||| fnd G goal r = lv G goal (r + 1) := by
  apply Nat.eq_of_testBit_eq
  intro j
  rw [Nat.testBit_or, fnd_at hg h16]
  cases hj : (lv G goal r).testBit j
  · simp
  · rw [lv_up (G := G) (goal := goal) r j hj]; rfl
theorem rkR_next (hg : goal < 2 ^ G.own.length) (h16 : G.own.length ≤ 16) (r p : Nat) : (if (fnd G goal r).testBit p then (r : Int) else rkR G goal r p) = rkR G goal (r + 1) p := by
  unfold rkR
  rw [fnd_at hg h16]
  cases h1 : (lv G goal r).testBit p
  · cases h2 : (lv G goal (r + 1)).testBit p
    · rfl
    · have h3 := (rk_iff hg p r).1 h2
      obtain ⟨m, hm⟩ := Int.eq_ofNat_of_zero_le h3.1
      have h4 := (rk_some hm).1
      have hmr : m = r := by
        rcases Nat.lt_or_ge m r with h5 | h5
        · rw [lv_mono (G := G) (goal := goal) (show m + 1 ≤ r by omega) p h4] at h1; cases h1
        · omega
      rw [hm, hmr]
      rfl
  · rw [lv_up (G := G) (goal := goal) r p h1]
    simp
theorem fnd_more {r : Nat} (hg : goal < 2 ^ G.own.length) (h : fnd G goal r ≠ 0) : r < G.own.length := by
  rcases Nat.lt_or_ge r G.own.length with h1 | h1
  · exact h1
  · exfalso
    apply h
    unfold fnd
    rw [lv_end hg (show G.own.length ≤ r + 1 by omega), lv_end hg h1]
    apply Nat.eq_of_testBit_eq
    intro j
    rw [Nat.testBit_and, Nat.zero_testBit]
    rcases Nat.lt_or_ge j 32 with h2 | h2
    · cases hj : (lv G goal G.own.length).testBit j
      · rfl
      · rcases Nat.lt_or_ge (lv G goal G.own.length) 4294967296 with h3 | h3
        · rw [not_at h3 h2, hj]; rfl
        · rw [show 4294967295 - lv G goal G.own.length = 0 by omega, Nat.zero_testBit]; rfl
    · rw [not_high h2]; simp
theorem rkR_end (hg : goal < 2 ^ G.own.length) (h16 : G.own.length ≤ 16) {r : Nat} (h : fnd G goal r = 0) (p : Nat) : rkR G goal r p = rkI G goal p := by
  have h1 : lv G goal r = lv G goal (r + 1) := by
    have h2 := lv_fnd (G := G) hg h16 r
    rw [h, Nat.or_zero] at h2
    exact h2
  have h2 := lv_stop hg h1
  unfold rkR
  by_cases hb : (lv G goal r).testBit p = true
  · rw [if_pos hb]
  · rw [if_neg hb]
    rw [h2] at hb
    exact (rk_none hg hb).symm
theorem rkR_zero (p : Nat) : rkR G goal 0 p = -1 := by
  unfold rkR
  rw [if_neg]
  show ¬ (0 : Nat).testBit p = true
  rw [Nat.zero_testBit]
  decide
end
theorem won_32 {G : Gm} {goal : Nat} (hg : goal < 2 ^ G.own.length) (h16 : G.own.length ≤ 16) : wonN G goal < 4294967296 := lv_32 hg h16 _
end Go.Proofs.Ytldepjpalhmpnaa

/-
  Numbers made of bits: which bits they have. No program in sight.
-/
import Derived.Laws.BitsAllLaws
import Derived.Laws.BitsLemmas
import Derived.RowKit
namespace Go.Proofs.Ytfmhanpibgmgfaa
set_option linter.unusedVariables false

def bitK (f : Nat → Bool) : Nat → Nat
  | 0 => 0
  | k + 1 => bitK f k + if f k then 2 ^ k else 0
theorem bitK_lt (f : Nat → Bool) : ∀ k, bitK f k < 2 ^ k
  | 0 => by simp [bitK]
  | k + 1 => by
    have := bitK_lt f k
    rw [bitK, Nat.pow_succ]
    split <;> omega
theorem bitK_test (f : Nat → Bool) : ∀ k j, j < k → (bitK f k).testBit j = f j
  | 0, j, h => by omega
  | k + 1, j, h => by
    have hlt := bitK_lt f k
    rw [bitK]
    by_cases hf : f k = true
    · rw [if_pos hf, Nat.add_comm]
      rcases Nat.lt_or_ge j k with hj | hj
      · rw [Nat.testBit_two_pow_add_gt hj]
        exact bitK_test f k j hj
      · obtain rfl : j = k := by omega
        rw [Nat.testBit_two_pow_add_eq, Nat.testBit_lt_two_pow hlt, hf]
        rfl
    · rw [if_neg hf, Nat.add_zero]
      rcases Nat.lt_or_ge j k with hj | hj
      · exact bitK_test f k j hj
      · obtain rfl : j = k := by omega
        rw [Nat.testBit_lt_two_pow hlt]
        simpa using hf
theorem bit_div {n j : Nat} : n / 2 ^ j % 2 = if n.testBit j then 1 else 0 := by
  rw [Nat.testBit_eq_decide_div_mod_eq]
  have : n / 2 ^ j % 2 < 2 := Nat.mod_lt _ (by omega)
  by_cases h : n / 2 ^ j % 2 = 1
  · simp [h]
  · have : n / 2 ^ j % 2 = 0 := by omega
    simp [this]
theorem ofInt_i64 (a : Nat) (ha : a < 9223372036854775808) : (BitVec.ofInt 64 (a : Int)).toNat = a := by
  rw [BitVec.ofInt_natCast, BitVec.toNat_ofNat]; exact Nat.mod_eq_of_lt (by omega)
theorem i64_or_nat (a b : Nat) (ha : a < 9223372036854775808) (hb : b < 9223372036854775808) : bits .or .i64 (a : Int) (b : Int) = ((a ||| b : Nat) : Int) := by
  have hx : a ||| b < 2 ^ 63 := Nat.or_lt_two_pow (by omega) (by omega)
  show IntKind.i64.wrap ((BitVec.ofInt 64 (a : Int) ||| BitVec.ofInt 64 (b : Int)).toNat : Int) = _
  rw [BitVec.toNat_or, ofInt_i64 a ha, ofInt_i64 b hb, IntKind.wrap_i64]
  omega
theorem i64_and_nat (a b : Nat) (ha : a < 9223372036854775808) (hb : b < 9223372036854775808) : bits .and .i64 (a : Int) (b : Int) = ((a &&& b : Nat) : Int) := by
  have hx : a &&& b < 2 ^ 63 := Nat.and_lt_two_pow _ (by omega)
  show IntKind.i64.wrap ((BitVec.ofInt 64 (a : Int) &&& BitVec.ofInt 64 (b : Int)).toNat : Int) = _
  rw [BitVec.toNat_and, ofInt_i64 a ha, ofInt_i64 b hb, IntKind.wrap_i64]
  omega
theorem or_bit {x k : Nat} (hx : x < 2 ^ k) (hk : k < 60) : bits .or .i64 (x : Int) ((2 ^ k : Nat) : Int) = ((x + 2 ^ k : Nat) : Int) := by
  have h2 : 2 ^ k < 2 ^ 60 := Nat.pow_lt_pow_right (by omega) hk
  have e : (2 : Nat) ^ 60 = 1152921504606846976 := by decide
  have h1 := Nat.two_pow_add_eq_or_of_lt hx 1
  rw [Nat.mul_one] at h1
  rw [i64_or_nat x (2 ^ k) (by omega) (by omega), Nat.or_comm, ← h1, Nat.add_comm]
end Go.Proofs.Ytfmhanpibgmgfaa

/-
  Numbers read as notes: words of stretches that do not meet, none begins with another one. No program in sight. No condition.
-/
namespace Go.Proofs.Ytjongjndoaojnaa
set_option linter.unusedVariables false
/-- A number read as notes: the highest bit first. -/
def wrd (v n : Nat) : List Bool := (List.range n).map fun j => v.testBit (n - 1 - j)
theorem wrd_len (v n : Nat) : (wrd v n).length = n := by simp [wrd]
theorem wrd_at {v n j : Nat} (h : j < n) : (wrd v n)[j]? = some (v.testBit (n - 1 - j)) := by simp [wrd, h]
/-- A word that begins with another one: its number lies in the other one's. -/
theorem wrd_front {u v m n : Nat} {t : List Bool} (hu : u < 2 ^ m) (hv : v < 2 ^ n) (h : wrd u m = wrd v n ++ t) : n ≤ m ∧ u / 2 ^ (m - n) = v := by
  have hl := congrArg List.length h
  rw [List.length_append, wrd_len, wrd_len] at hl
  have hnm : n ≤ m := by omega
  refine ⟨hnm, Nat.eq_of_testBit_eq fun i => ?_⟩
  rw [Nat.testBit_div_two_pow]
  rcases Nat.lt_or_ge i n with hi | hi
  · have h1 := wrd_at (v := u) (n := m) (j := n - 1 - i) (by omega)
    have h2 := wrd_at (v := v) (n := n) (j := n - 1 - i) (by omega)
    rw [h, List.getElem?_append_left (by rw [wrd_len]; omega), h2] at h1
    have h3 := Option.some.inj h1
    rw [show n - 1 - (n - 1 - i) = i by omega, show m - 1 - (n - 1 - i) = i + (m - n) by omega] at h3
    exact h3.symm
  · rw [Nat.testBit_lt_two_pow (Nat.lt_of_lt_of_le hv (Nat.pow_le_pow_right (by omega) hi)), Nat.testBit_lt_two_pow (Nat.lt_of_lt_of_le hu (Nat.pow_le_pow_right (by omega) (by omega)))]
/-- The words of two stretches of the numbers below 2^L that do not meet: none begins with the other one. -/
theorem wrd_apart {u v m n L : Nat} {t : List Bool} (hm : m ≤ L) (hu : u < 2 ^ m) (hv : v < 2 ^ n) (h : (u + 1) * 2 ^ (L - m) ≤ v * 2 ^ (L - n) ∨ (v + 1) * 2 ^ (L - n) ≤ u * 2 ^ (L - m)) : wrd u m ≠ wrd v n ++ t := by
  intro he
  obtain ⟨hnm, hq⟩ := wrd_front hu hv he
  have e : 2 ^ (L - n) = 2 ^ (m - n) * 2 ^ (L - m) := by rw [← Nat.pow_add, show m - n + (L - m) = L - n by omega]
  have hp := Nat.two_pow_pos (m - n)
  have hp2 := Nat.two_pow_pos (L - m)
  have h1 : v * 2 ^ (m - n) ≤ u := by rw [← hq]; exact Nat.div_mul_le_self ..
  have h2 : u < (v + 1) * 2 ^ (m - n) := by
    have := Nat.lt_mul_div_succ u hp
    rw [hq, Nat.mul_comm] at this
    exact this
  rw [e, ← Nat.mul_assoc, ← Nat.mul_assoc] at h
  rcases h with h | h
  · have := Nat.le_of_mul_le_mul_right h hp2
    omega
  · have := Nat.le_of_mul_le_mul_right h hp2
    omega
end Go.Proofs.Ytjongjndoaojnaa

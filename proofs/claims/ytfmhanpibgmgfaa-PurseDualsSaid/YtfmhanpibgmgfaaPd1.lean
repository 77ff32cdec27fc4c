/-
  Dividends: theory. No walk.
-/
import Derived.Test.YtfmhanpibgmgfaaPu2
namespace Go.Proofs.Ytfmhanpibgmgfaa
set_option linter.unusedVariables false

/-- One player's step. -/
def stepF (s : Int) (k : Nat) (f : Nat → Int) (g : Nat) : Int := if g.testBit k = true then f g + s * f (g ^^^ 2 ^ k) else f g
def tfF (f : Nat → Int) (s : Int) : Nat → Nat → Int
  | 0 => f
  | k + 1 => stepF s k (tfF f s k)
theorem xor_self_bit {g k : Nat} (h : g.testBit k = true) : (g ^^^ 2 ^ k).testBit k = false := by
  rw [Nat.testBit_xor, Nat.testBit_two_pow_self, h]
  rfl
theorem xor_other_bit {g j k : Nat} (h : j ≠ k) : (g ^^^ 2 ^ k).testBit j = g.testBit j := by
  rw [Nat.testBit_xor, Nat.testBit_two_pow, decide_eq_false (fun e => h e.symm), Bool.xor_false]
theorem step_inv (s : Int) (k : Nat) (f : Nat → Int) : stepF (-s) k (stepF s k f) = f := by
  funext g
  unfold stepF
  by_cases h : g.testBit k = true
  · rw [if_pos h, if_pos h, if_neg (by rw [xor_self_bit h]; simp), Int.neg_mul]
    omega
  · rw [if_neg h, if_neg h]
theorem step_comm (s t : Int) {j k : Nat} (hjk : j ≠ k) (f : Nat → Int) : stepF s k (stepF t j f) = stepF t j (stepF s k f) := by
  funext g
  unfold stepF
  have e1 : (g ^^^ 2 ^ k).testBit j = g.testBit j := xor_other_bit hjk
  have e2 : (g ^^^ 2 ^ j).testBit k = g.testBit k := xor_other_bit (Ne.symm hjk)
  have e3 : g ^^^ 2 ^ k ^^^ 2 ^ j = g ^^^ 2 ^ j ^^^ 2 ^ k := by rw [Nat.xor_assoc, Nat.xor_comm (2 ^ k), ← Nat.xor_assoc]
  rw [e1, e2, e3]
  by_cases h1 : g.testBit k = true
  · by_cases h2 : g.testBit j = true
    · rw [if_pos h1, if_pos h1, if_pos h2, if_pos h2, if_pos h1, if_pos h2, Int.mul_add, Int.mul_add, ← Int.mul_assoc, ← Int.mul_assoc, Int.mul_comm s t]
      omega
    · rw [if_pos h1, if_pos h1, if_neg h2, if_neg h2, if_neg h2]
  · by_cases h2 : g.testBit j = true
    · rw [if_neg h1, if_neg h1, if_pos h2, if_pos h2, if_neg h1]
    · rw [if_neg h1, if_neg h1, if_neg h2, if_neg h2]
theorem tf_step (s t : Int) (f : Nat → Int) (j : Nat) : ∀ k, k ≤ j → tfF (stepF t j f) s k = stepF t j (tfF f s k)
  | 0, _ => rfl
  | k + 1, h => by
    show stepF s k (tfF (stepF t j f) s k) = stepF t j (stepF s k (tfF f s k))
    rw [tf_step s t f j k (by omega), step_comm s t (by omega)]
theorem tf_inv (s : Int) (f : Nat → Int) : ∀ n, tfF (tfF f s n) (-s) n = f
  | 0 => rfl
  | n + 1 => by
    show stepF (-s) n (tfF (stepF s n (tfF f s n)) (-s) n) = f
    rw [tf_step (-s) s _ n n (Nat.le_refl _), step_inv, tf_inv s f n]
/-- Only the values of the groups that there are matter. -/
theorem tf_congr {f f' : Nat → Int} {s : Int} {n : Nat} (h : ∀ g, g < 2 ^ n → f g = f' g) : ∀ k, k ≤ n → ∀ g, g < 2 ^ n → tfF f s k g = tfF f' s k g
  | 0, _, g, hg => h g hg
  | k + 1, hk, g, hg => by
    show stepF s k (tfF f s k) g = stepF s k (tfF f' s k) g
    have hx : g ^^^ 2 ^ k < 2 ^ n := Nat.xor_lt_two_pow hg (Nat.pow_lt_pow_right (by omega) (by omega))
    unfold stepF
    rw [tf_congr h k (by omega) g hg, tf_congr h k (by omega) _ hx]
theorem tf_high {f : Nat → Int} {s : Int} {n g : Nat} (hg : g < 2 ^ n) : ∀ k, tfF f s (n + k) g = tfF f s n g
  | 0 => rfl
  | k + 1 => by
    show stepF s (n + k) (tfF f s (n + k)) g = _
    unfold stepF
    rw [if_neg (by rw [Nat.testBit_lt_two_pow (Nat.lt_of_lt_of_le hg (Nat.pow_le_pow_right (by omega) (by omega)))]; simp), tf_high hg k]
theorem tf_le {f : Nat → Int} {s M : Int} (hs : s = 1 ∨ s = -1) (h : ∀ g, -M ≤ f g ∧ f g ≤ M) : ∀ k g, -((2 : Int) ^ k * M) ≤ tfF f s k g ∧ tfF f s k g ≤ (2 : Int) ^ k * M
  | 0, g => by
    have := h g
    show -((2 : Int) ^ 0 * M) ≤ f g ∧ f g ≤ (2 : Int) ^ 0 * M
    rw [Int.pow_zero, Int.one_mul]
    omega
  | k + 1, g => by
    have h1 := tf_le hs h k g
    have h2 := tf_le hs h k (g ^^^ 2 ^ k)
    show -((2 : Int) ^ (k + 1) * M) ≤ stepF s k (tfF f s k) g ∧ stepF s k (tfF f s k) g ≤ (2 : Int) ^ (k + 1) * M
    have e : (2 : Int) ^ (k + 1) * M = 2 * ((2 : Int) ^ k * M) := by rw [Int.pow_succ, Int.mul_comm ((2 : Int) ^ k) 2, Int.mul_assoc]
    rw [e]
    generalize (2 : Int) ^ k * M = B at *
    unfold stepF
    split
    · rcases hs with rfl | rfl
      · rw [Int.one_mul]; omega
      · rw [Int.neg_mul, Int.one_mul]; omega
    · omega

/-! ### Sums over parts -/
def tlL : Nat → Nat → List Nat
  | 0, h => [h]
  | k + 1, h => if h.testBit k = true then tlL k h ++ tlL k (h ^^^ 2 ^ k) else tlL k h
def paB (g h : Nat) : Bool := decide (g &&& h = g)
def ptL (h : Nat) : List Nat := (List.range (h + 1)).filter fun g => paB g h
theorem tl_sum (f : Nat → Int) : ∀ k h, tfF f 1 k h = ((tlL k h).map f).sum
  | 0, h => by simp [tlL, tfF]
  | k + 1, h => by
    show stepF 1 k (tfF f 1 k) h = _
    unfold stepF tlL
    by_cases e : h.testBit k = true
    · rw [if_pos e, if_pos e, tl_sum f k h, tl_sum f k _, List.map_append, List.sum_append, Int.one_mul]
    · rw [if_neg e, if_neg e, tl_sum f k h]
theorem perm_sum {l l' : List Int} (h : l.Perm l') : l.sum = l'.sum := by
  induction h with
  | nil => rfl
  | cons x _ ih => rw [List.sum_cons, List.sum_cons, ih]
  | swap x y l => rw [List.sum_cons, List.sum_cons, List.sum_cons, List.sum_cons]; omega
  | trans _ _ ih1 ih2 => rw [ih1, ih2]
theorem tl_perm : ∀ h : Fin 32, (tlL 5 h.val).Perm (ptL h.val) := by decide +kernel
/-- What the parts of a group have, up to a number. -/
def psF (f : Nat → Int) (h k : Nat) : Int := sI (fun g => if paB g h = true then f g else 0) k
theorem ps_list (f : Nat → Int) (h : Nat) : ∀ k, psF f h k = (((List.range k).filter fun g => paB g h).map f).sum
  | 0 => rfl
  | k + 1 => by
    show psF f h k + (if paB k h = true then f k else 0) = _
    rw [ps_list f h k, List.range_succ, List.filter_append, List.map_append, List.sum_append]
    by_cases e : paB k h = true
    · simp [e]
    · simp [e]
theorem zeta_sum (f : Nat → Int) {n h : Nat} (hn : n ≤ 5) (hh : h < 2 ^ n) : tfF f 1 n h = psF f h (h + 1) := by
  have h5 : tfF f 1 (n + (5 - n)) h = tfF f 1 n h := tf_high hh (5 - n)
  rw [show n + (5 - n) = 5 by omega] at h5
  have h2 : 2 ^ n ≤ 2 ^ 5 := Nat.pow_le_pow_right (by omega) hn
  rw [← h5, tl_sum, ps_list]
  exact perm_sum ((tl_perm ⟨h, Nat.lt_of_lt_of_le hh h2⟩).map f)
theorem part_self (h : Nat) : paB h h = true := by simp [paB]
/-- A dividend is what is left of a group's value. -/
theorem div_left (f : Nat → Int) {n h : Nat} (hn : n ≤ 5) (hh : h < 2 ^ n) : tfF f (-1) n h = f h - psF (tfF f (-1) n) h h := by
  have h1 := tf_inv (-1) f n
  have h2 := zeta_sum (tfF f (-1) n) hn hh
  rw [show (-(-1) : Int) = 1 from rfl] at h1
  rw [h1] at h2
  have h3 : psF (tfF f (-1) n) h (h + 1) = psF (tfF f (-1) n) h h + tfF f (-1) n h := by
    show psF (tfF f (-1) n) h h + (if paB h h = true then tfF f (-1) n h else 0) = _
    rw [if_pos (part_self h)]
  omega
end Go.Proofs.Ytfmhanpibgmgfaa

/-
  Sets of points of the compass as numbers of 32 bits: turned, mirrored, put together. No program in sight.
-/
import Derived.Test.YtfmhanpibgmgfaaBit
namespace Go.Proofs.Ytfmhanpibgmgfaa
set_option linter.unusedVariables false

theorem ext32 {x y : Nat} (hx : x < 4294967296) (hy : y < 4294967296) (h : ∀ j, j < 32 → x.testBit j = y.testBit j) : x = y := by
  apply Nat.eq_of_testBit_eq
  intro j
  rcases Nat.lt_or_ge j 32 with hj | hj
  · exact h j hj
  · have hp : 2 ^ 32 ≤ 2 ^ j := Nat.pow_le_pow_right (by omega) hj
    rw [Nat.testBit_lt_two_pow (by omega), Nat.testBit_lt_two_pow (by omega)]
theorem bit32 (f : Nat → Bool) : bitK f 32 < 4294967296 := bitK_lt f 32
theorem bitK_congr {f g : Nat → Bool} : ∀ {k : Nat}, (∀ j, j < k → f j = g j) → bitK f k = bitK g k
  | 0, _ => rfl
  | k + 1, h => by rw [bitK, bitK, bitK_congr (k := k) fun j hj => h j (by omega), h k (by omega)]
theorem bitK_of {x : Nat} (hx : x < 4294967296) : bitK x.testBit 32 = x := ext32 (bit32 _) hx fun j hj => bitK_test _ _ j hj
theorem bitK_head (g : Nat → Bool) : ∀ m, bitK g (m + 1) = bitK (fun j => g (j + 1)) m * 2 + if g 0 then 1 else 0
  | 0 => by simp [bitK]
  | m + 1 => by
    rw [bitK, bitK_head g m, bitK, Nat.pow_succ]
    split <;> split <;> omega
theorem bitK_add {f g : Nat → Bool} : ∀ {k : Nat}, (∀ j, j < k → (f j && g j) = false) → bitK f k + bitK g k = bitK (fun j => f j || g j) k
  | 0, _ => rfl
  | k + 1, h => by
    have ih := bitK_add (k := k) fun j hj => h j (by omega)
    have hk := h k (by omega)
    simp only [bitK, ← ih]
    by_cases hf : f k = true <;> by_cases hg : g k = true <;> simp [hf, hg] at hk ⊢ <;> omega
theorem bitK_and (f g : Nat → Bool) : bitK f 32 &&& bitK g 32 = bitK (fun j => f j && g j) 32 := by
  refine ext32 (Nat.lt_of_le_of_lt Nat.and_le_left (bit32 _)) (bit32 _) fun j hj => ?_
  rw [Nat.testBit_and, bitK_test _ _ _ hj, bitK_test _ _ _ hj, bitK_test _ _ _ hj]
theorem bitK_or (f g : Nat → Bool) : bitK f 32 ||| bitK g 32 = bitK (fun j => f j || g j) 32 := by
  refine ext32 (show _ < 2 ^ 32 from Nat.or_lt_two_pow (bit32 _) (bit32 _)) (bit32 _) fun j hj => ?_
  rw [Nat.testBit_or, bitK_test _ _ _ hj, bitK_test _ _ _ hj, bitK_test _ _ _ hj]
theorem bitK_zero {f : Nat → Bool} {k : Nat} (h : ∀ j, j < k → f j = false) : bitK f k = 0 := by
  induction k with
  | zero => rfl
  | succ k ih => rw [bitK, ih fun j hj => h j (by omega), h k (by omega)]; rfl
theorem all32 : bitK (fun _ => true) 32 = 4294967295 := by decide
theorem bitK_full {f : Nat → Bool} (h : bitK f 32 = 4294967295) {j : Nat} (hj : j < 32) : f j = true := by
  rw [← bitK_test f 32 j hj, h, ← all32, bitK_test _ _ _ hj]

/-! ### Turns -/
def rotN (x s : Nat) : Nat := x * 2 ^ s % 4294967296 ||| x / 2 ^ (32 - s)
theorem rot_lt {x s : Nat} (hx : x < 4294967296) : rotN x s < 4294967296 := by
  refine show _ < 2 ^ 32 from Nat.or_lt_two_pow (Nat.mod_lt _ (by decide)) ?_
  exact Nat.lt_of_le_of_lt (Nat.div_le_self _ _) hx
theorem rot_test {x s j : Nat} (hx : x < 4294967296) (hs : s < 32) (hj : j < 32) : (rotN x s).testBit j = x.testBit ((j + 32 - s) % 32) := by
  unfold rotN
  rw [Nat.testBit_or, show (4294967296 : Nat) = 2 ^ 32 from rfl, Nat.testBit_mod_two_pow, ← Nat.shiftLeft_eq, Nat.testBit_shiftLeft, Nat.testBit_div_two_pow]
  rcases Nat.lt_or_ge j s with h | h
  · have e : (j + 32 - s) % 32 = j + (32 - s) := by omega
    have e2 : decide (j ≥ s) = false := by simpa using h
    rw [e, e2]
    simp
  · have e : (j + 32 - s) % 32 = j - s := by omega
    have e2 : decide (j ≥ s) = true := by simpa using h
    have e3 : x.testBit (32 - s + j) = false := by
      apply Nat.testBit_lt_two_pow
      have : 2 ^ 32 ≤ 2 ^ (32 - s + j) := Nat.pow_le_pow_right (by omega) (by omega)
      omega
    rw [e, e2, Nat.add_comm j (32 - s), e3]
    simp [hj]
/-- The points of an arc. -/
def inArc (f w p : Nat) : Bool := decide ((p + 32 - f) % 32 < w)
def ptsN (f w : Nat) : Nat := bitK (inArc f w) 32
theorem low_lt {w : Nat} (hw : w ≤ 32) : 2 ^ w - 1 < 4294967296 := by
  have : 2 ^ w ≤ 2 ^ 32 := Nat.pow_le_pow_right (by omega) hw
  have := Nat.two_pow_pos w
  omega
theorem rot_pts {f w : Nat} (hf : f < 32) (hw : w ≤ 32) : rotN (2 ^ w - 1) f = ptsN f w := by
  refine ext32 (rot_lt (low_lt hw)) (bit32 _) fun j hj => ?_
  rw [rot_test (low_lt hw) hf hj, Nat.testBit_two_pow_sub_one]
  exact (bitK_test (inArc f w) 32 j hj).symm
theorem all_shr {w : Nat} (hw : w ≤ 32) : 4294967295 / 2 ^ (32 - w) = 2 ^ w - 1 := by
  have h : 2 ^ w * 2 ^ (32 - w) = 4294967296 := by rw [← Nat.pow_add, show w + (32 - w) = 32 by omega]
  have hp := Nat.two_pow_pos (32 - w)
  have hq := Nat.two_pow_pos w
  rw [Nat.div_eq_iff hp]
  refine ⟨?_, ?_⟩
  · rw [Nat.sub_mul, h, Nat.one_mul]; omega
  · rw [Nat.sub_mul, h, Nat.one_mul]; omega

/-! ### Bits in reverse order -/
def swapN (m k x : Nat) : Nat := x / 2 ^ k &&& m ||| (x &&& m) * 2 ^ k % 4294967296
theorem swap_lt {m k x : Nat} (hx : x < 4294967296) : swapN m k x < 4294967296 :=
  show _ < 2 ^ 32 from Nat.or_lt_two_pow (Nat.lt_of_le_of_lt Nat.and_le_left (Nat.lt_of_le_of_lt (Nat.div_le_self _ _) hx)) (Nat.mod_lt _ (by decide))
theorem swap_test {m k x j : Nat} (hj : j < 32) : (swapN m k x).testBit j = (x.testBit (k + j) && m.testBit j || (decide (j ≥ k) && (x.testBit (j - k) && m.testBit (j - k)))) := by
  unfold swapN
  rw [Nat.testBit_or, Nat.testBit_and, Nat.testBit_div_two_pow, show (4294967296 : Nat) = 2 ^ 32 from rfl, Nat.testBit_mod_two_pow, ← Nat.shiftLeft_eq, Nat.testBit_shiftLeft, Nat.testBit_and, Nat.add_comm]
  simp [hj]
/-- Which bit a swap of neighbors of k bits puts there. -/
def flip (k j : Nat) : Nat := if j / k % 2 = 0 then j + k else j - k
theorem flip_lt {k j : Nat} (hk : k = 1 ∨ k = 2 ∨ k = 4 ∨ k = 8 ∨ k = 16) (hj : j < 32) : flip k j < 32 := by
  unfold flip
  rcases hk with rfl | rfl | rfl | rfl | rfl <;> split <;> omega
theorem swap_flip {m k x j : Nat} (hj : j < 32) (hm : ∀ i, i < 32 → m.testBit i = decide (i / k % 2 = 0)) (hk : 0 < k) : (swapN m k x).testBit j = x.testBit (flip k j) := by
  rw [swap_test hj, hm j hj]
  unfold flip
  have back : ∀ i, (i + k) / k = i / k + 1 := fun i => Nat.add_div_right i hk
  by_cases h : j / k % 2 = 0
  · rw [if_pos h]
    have e : (decide (j ≥ k) && (x.testBit (j - k) && m.testBit (j - k))) = false := by
      by_cases hk2 : j ≥ k
      · have h1 := back (j - k)
        rw [Nat.sub_add_cancel hk2] at h1
        rw [hm (j - k) (by omega)]
        have : ¬ (j - k) / k % 2 = 0 := by omega
        simp [this]
      · simp [hk2]
    rw [e]
    simp [h, Nat.add_comm]
  · rw [if_neg h]
    have hk2 : j ≥ k := by
      rcases Nat.lt_or_ge j k with h2 | h2
      · rw [Nat.div_eq_of_lt h2] at h; simp at h
      · exact h2
    have h1 := back (j - k)
    rw [Nat.sub_add_cancel hk2] at h1
    have : (j - k) / k % 2 = 0 := by omega
    rw [hm (j - k) (by omega)]
    simp [h, this, hk2]
def halfN (x : Nat) : Nat := x / 65536 ||| x * 65536 % 4294967296
theorem half_flip {x j : Nat} (hx : x < 4294967296) (hj : j < 32) : (halfN x).testBit j = x.testBit (flip 16 j) := by
  unfold halfN
  rw [Nat.testBit_or, show (65536 : Nat) = 2 ^ 16 from rfl, Nat.testBit_div_two_pow, show (4294967296 : Nat) = 2 ^ 32 from rfl, Nat.testBit_mod_two_pow, ← Nat.shiftLeft_eq, Nat.testBit_shiftLeft, Nat.add_comm]
  unfold flip
  rcases Nat.lt_or_ge j 16 with h | h
  · rw [if_pos (by omega)]
    have e2 : decide (j ≥ 16) = false := by simpa using h
    rw [e2, Nat.add_comm]
    simp
  · rw [if_neg (by omega)]
    have e3 : x.testBit (j + 16) = false := by
      apply Nat.testBit_lt_two_pow
      have : 2 ^ 32 ≤ 2 ^ (j + 16) := Nat.pow_le_pow_right (by omega) (by omega)
      omega
    have e2 : decide (j ≥ 16) = true := by simpa using h
    rw [Nat.add_comm 16 j] at *
    simp [e3, hj, h]
def revN (x : Nat) : Nat := halfN (swapN 16711935 8 (swapN 252645135 4 (swapN 858993459 2 (swapN 1431655765 1 x))))
theorem rev_lt {x : Nat} (hx : x < 4294967296) : revN x < 4294967296 := by
  refine show _ < 2 ^ 32 from Nat.or_lt_two_pow ?_ (Nat.mod_lt _ (by decide))
  exact Nat.lt_of_le_of_lt (Nat.div_le_self _ _) (swap_lt (swap_lt (swap_lt (swap_lt hx))))
theorem m0_is : ∀ i, i < 32 → Nat.testBit 1431655765 i = decide (i / 1 % 2 = 0) := by decide
theorem m1_is : ∀ i, i < 32 → Nat.testBit 858993459 i = decide (i / 2 % 2 = 0) := by decide
theorem m2_is : ∀ i, i < 32 → Nat.testBit 252645135 i = decide (i / 4 % 2 = 0) := by decide
theorem m3_is : ∀ i, i < 32 → Nat.testBit 16711935 i = decide (i / 8 % 2 = 0) := by decide
theorem flips : ∀ j, j < 32 → flip 1 (flip 2 (flip 4 (flip 8 (flip 16 j)))) = 31 - j := by decide
theorem rev_test {x j : Nat} (hx : x < 4294967296) (hj : j < 32) : (revN x).testBit j = x.testBit (31 - j) := by
  unfold revN
  have h16 := flip_lt (k := 16) (by simp) hj
  have h8 := flip_lt (k := 8) (by simp) h16
  have h4 := flip_lt (k := 4) (by simp) h8
  have h2 := flip_lt (k := 2) (by simp) h4
  rw [half_flip (swap_lt (swap_lt (swap_lt (swap_lt hx)))) hj, swap_flip h16 m3_is (by decide), swap_flip h8 m2_is (by decide), swap_flip h4 m1_is (by decide), swap_flip h2 m0_is (by decide), flips j hj]
/-- Mirrored: the bit j comes from the bit -j. -/
def mirN (x : Nat) : Nat := rotN (revN x) 1
theorem mir_test {x j : Nat} (hx : x < 4294967296) (hj : j < 32) : (mirN x).testBit j = x.testBit ((32 - j) % 32) := by
  unfold mirN
  rw [rot_test (rev_lt hx) (by decide) hj, rev_test hx (Nat.mod_lt _ (by decide))]
  congr 1
  omega
end Go.Proofs.Ytfmhanpibgmgfaa

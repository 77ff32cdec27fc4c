/-
  The most winds that are apart: the table over all sets of pipes, and that it is right. No walk.
-/
import Derived.Test.YtfokmgogbjifbaaWb5
namespace Go.Proofs.Ytfokmgogbjifbaa
open Go.RowKit
set_option linter.unusedVariables false

/-- The bits of a number without those of another. -/
def dif (P u : Nat) : Nat := P &&& (18446744073709551615 - u)
theorem dif_test {P u j : Nat} (hP : P < 9223372036854775808) (hu : u < 9223372036854775808) : (dif P u).testBit j = (P.testBit j && !u.testBit j) := by
  have e : 18446744073709551615 - u = 2 ^ 64 - (u + 1) := by omega
  unfold dif
  rw [Nat.testBit_and, e, Nat.testBit_two_pow_sub_succ (show u < 2 ^ 64 by omega)]
  by_cases hj : j < 64
  · rw [decide_eq_true hj, Bool.true_and]
  · have : P.testBit j = false := Nat.testBit_lt_two_pow (Nat.lt_of_lt_of_le (show P < 2 ^ 63 from hP) (Nat.pow_le_pow_right (by omega) (by omega)))
    rw [this, Bool.false_and, Bool.false_and]
theorem dif_le (P u : Nat) : dif P u ≤ P := Nat.and_le_left
theorem i64_andNot_nat (a b : Nat) (ha : a < 9223372036854775808) (hb : b < 9223372036854775808) : bits .andNot .i64 (a : Int) (b : Int) = ((dif a b : Nat) : Int) := by
  have hx : dif a b ≤ a := dif_le a b
  show IntKind.i64.wrap ((BitVec.ofInt 64 (a : Int) &&& ~~~BitVec.ofInt 64 (b : Int)).toNat : Int) = _
  rw [BitVec.toNat_and, BitVec.toNat_not, ofInt_i64 a ha, ofInt_i64 b hb]
  have e : 2 ^ 64 - 1 - b = 18446744073709551615 - b := by omega
  rw [e]
  change IntKind.i64.wrap ((dif a b : Nat) : Int) = _
  rw [IntKind.wrap_i64]
  omega
def Sub (u P : Nat) : Prop := ∀ j, u.testBit j = true → P.testBit j = true
theorem sub_dif {P u : Nat} (hP : P < 9223372036854775808) (hu : u < 9223372036854775808) : dif u P = 0 ↔ Sub u P := by
  constructor
  · intro h j hj
    have h1 := dif_test (j := j) hu hP
    rw [h, Nat.zero_testBit, hj, Bool.true_and] at h1
    simpa using h1.symm
  · intro h
    refine Nat.eq_of_testBit_eq fun j => ?_
    rw [dif_test hu hP, Nat.zero_testBit]
    cases hj : u.testBit j
    · rfl
    · rw [h j hj]; rfl
theorem some_bit {u : Nat} (h : u ≠ 0) : ∃ j, u.testBit j = true := by
  by_cases hh : ∃ j, u.testBit j = true
  · exact hh
  · refine absurd (Nat.eq_of_testBit_eq fun j => ?_) h
    rw [Nat.zero_testBit]
    cases hj : u.testBit j
    · rfl
    · exact absurd ⟨j, hj⟩ hh
theorem dif_lt {P u : Nat} (hP : P < 9223372036854775808) (hu : u < 9223372036854775808) (h0 : u ≠ 0) (hs : Sub u P) : dif P u < P := by
  rcases Nat.lt_or_eq_of_le (dif_le P u) with h | h
  · exact h
  · obtain ⟨j, hj⟩ := some_bit h0
    have h1 := dif_test (j := j) hP hu
    rw [h, hs j hj, hj] at h1
    cases h1
/-- How many winds a set has. -/
def cnt (x : Nat) : Nat := cntK x.testBit 32
/-- A set of winds that are apart, at each of which some of the pipes P and no others can be worked (f: the pipes of a wind). -/
def Good (f : Nat → Nat) (P x : Nat) : Prop :=
  x < 4294967296 ∧ (∀ p, p < 32 → x.testBit p = true → f p ≠ 0 ∧ Sub (f p) P) ∧
  ∀ p q, p < 32 → q < 32 → p ≠ q → x.testBit p = true → x.testBit q = true → ∀ j, (f p).testBit j = true → (f q).testBit j = false
theorem good_none (f : Nat → Nat) (P : Nat) : Good f P 0 := ⟨by decide, fun p _ h => by simp at h, fun p q _ _ _ h => by simp at h⟩
theorem cntK_zero {f : Nat → Bool} {k : Nat} (h : ∀ j, j < k → f j = false) : cntK f k = 0 := by
  induction k with
  | zero => rfl
  | succ k ih => rw [cntK, ih fun j hj => h j (by omega), h k (by omega)]; rfl
theorem cntK_pos {f : Nat → Bool} {k : Nat} (h : 0 < cntK f k) : ∃ j, j < k ∧ f j = true := by
  by_cases hh : ∃ j, j < k ∧ f j = true
  · exact hh
  · have : cntK f k = 0 := cntK_zero fun j hj => by
      cases hj2 : f j
      · rfl
      · exact absurd ⟨j, hj, hj2⟩ hh
    omega
/-- One more. -/
theorem cntK_more {f g : Nat → Bool} {w : Nat} (hw : f w = false) (hg : g w = true) : ∀ {k : Nat}, (∀ j, j < k → j ≠ w → g j = f j) → cntK g k = cntK f k + if w < k then 1 else 0
  | 0, _ => rfl
  | k + 1, h => by
    have ih := cntK_more hw hg (k := k) fun j hj => h j (by omega)
    rw [cntK, cntK, ih]
    by_cases hk : k = w
    · subst hk
      simp [hw, hg]
    · rw [h k (by omega) hk]
      have e : (if w < k + 1 then 1 else 0 : Nat) = (if w < k then 1 else 0) := by
        by_cases hlt : w < k
        · rw [if_pos hlt, if_pos (Nat.lt_succ_of_lt hlt)]
        · have h2 : ¬ w < k + 1 := fun h3 => by omega
          rw [if_neg hlt, if_neg h2]
      rw [e]
      omega
def put (x w : Nat) : Nat := x ||| 2 ^ w
theorem put_test (x w j : Nat) : (put x w).testBit j = (x.testBit j || decide (w = j)) := by unfold put; rw [Nat.testBit_or, Nat.testBit_two_pow]
theorem put_lt {x w : Nat} (hx : x < 4294967296) (hw : w < 32) : put x w < 4294967296 := by
  have h2 : 2 ^ w < 2 ^ 32 := Nat.pow_lt_pow_right (by omega) hw
  exact (show _ < 2 ^ 32 from Nat.or_lt_two_pow hx h2)
theorem good_put {f : Nat → Nat} {P x w : Nat} (hP : P < 9223372036854775808) (hf : ∀ p, f p < 9223372036854775808) (hw : w < 32) (h0 : f w ≠ 0) (hs : Sub (f w) P) (h : Good f (dif P (f w)) x) : Good f P (put x w) ∧ cnt (put x w) = cnt x + 1 := by
  obtain ⟨hx, h1, h2⟩ := h
  have hd : ∀ p, p < 32 → x.testBit p = true → ∀ j, (f p).testBit j = true → (f w).testBit j = false := by
    intro p hp hpx j hj
    have h3 := (h1 p hp hpx).2 j hj
    rw [dif_test hP (hf w)] at h3
    simp at h3
    exact h3.2
  have hxw : x.testBit w = false := by
    cases hb : x.testBit w
    · rfl
    · obtain ⟨j, hj⟩ := some_bit h0
      have := hd w hw hb j hj
      rw [hj] at this
      cases this
  refine ⟨⟨put_lt hx hw, ?_, ?_⟩, ?_⟩
  · intro p hp hpt
    rw [put_test] at hpt
    by_cases he : w = p
    · subst he
      exact ⟨h0, hs⟩
    · rw [decide_eq_false he, Bool.or_false] at hpt
      refine ⟨(h1 p hp hpt).1, fun j hj => ?_⟩
      have h3 := (h1 p hp hpt).2 j hj
      rw [dif_test hP (hf w)] at h3
      simp at h3
      exact h3.1
  · intro p q hp hq hne hpt hqt j hj
    rw [put_test] at hpt hqt
    by_cases he : w = p
    · subst he
      rw [decide_eq_false hne, Bool.or_false] at hqt
      cases hb : (f q).testBit j
      · rfl
      · have := hd q hq hqt j hb
        rw [hj] at this
        cases this
    · rw [decide_eq_false he, Bool.or_false] at hpt
      by_cases he2 : w = q
      · subst he2
        exact hd p hp hpt j hj
      · rw [decide_eq_false he2, Bool.or_false] at hqt
        exact h2 p q hp hq hne hpt hqt j hj
  · unfold cnt
    rw [cntK_more hxw (by rw [put_test]; simp) (fun j _ hne => by rw [put_test, decide_eq_false (fun h => hne h.symm), Bool.or_false]), if_pos hw]
def cut (x w : Nat) : Nat := bitK (fun j => x.testBit j && decide (j ≠ w)) 32
theorem cut_test {x w j : Nat} (hj : j < 32) : (cut x w).testBit j = (x.testBit j && decide (j ≠ w)) := bitK_test _ _ _ hj
theorem good_cut {f : Nat → Nat} {P x w : Nat} (hP : P < 9223372036854775808) (hf : ∀ p, f p < 9223372036854775808) (hw : w < 32) (hx : x.testBit w = true) (h : Good f P x) : Good f (dif P (f w)) (cut x w) ∧ cnt x = cnt (cut x w) + 1 := by
  obtain ⟨hx1, h1, h2⟩ := h
  have hin : ∀ p, p < 32 → (cut x w).testBit p = true → x.testBit p = true ∧ p ≠ w := by
    intro p hp hpt
    rw [cut_test hp] at hpt
    simpa using hpt
  refine ⟨⟨bit32 _, ?_, ?_⟩, ?_⟩
  · intro p hp hpt
    obtain ⟨h3, h4⟩ := hin p hp hpt
    refine ⟨(h1 p hp h3).1, fun j hj => ?_⟩
    rw [dif_test hP (hf w), (h1 p hp h3).2 j hj, h2 p w hp hw h4 h3 hx j hj]
    rfl
  · intro p q hp hq hne hpt hqt
    exact h2 p q hp hq hne (hin p hp hpt).1 (hin q hq hqt).1
  · unfold cnt
    rw [cntK_more (f := (cut x w).testBit) (g := x.testBit) (w := w) (by rw [cut_test hw]; simp) hx (fun j hj hne => by rw [cut_test hj]; simp [hne]), if_pos hw]
/-- One wind more is tried. -/
def tryW (f M : Nat → Nat) (P best w : Nat) : Nat :=
  if f w ≠ 0 ∧ dif (f w) P = 0 then (if cnt best < cnt (put (M (dif P (f w))) w) then put (M (dif P (f w))) w else best) else best
def bestW (f M : Nat → Nat) (P : Nat) : Nat → Nat
  | 0 => 0
  | k + 1 => tryW f M P (bestW f M P k) k
theorem bestW_congr {f M M' : Nat → Nat} {P : Nat} (hP : P < 9223372036854775808) (hf : ∀ p, f p < 9223372036854775808) (h : ∀ j, j < P → M j = M' j) : ∀ k, bestW f M P k = bestW f M' P k
  | 0 => rfl
  | k + 1 => by
    rw [bestW, bestW, bestW_congr hP hf h k]
    unfold tryW
    by_cases hc : f k ≠ 0 ∧ dif (f k) P = 0
    · rw [if_pos hc, if_pos hc, h _ (dif_lt hP (hf k) hc.1 ((sub_dif hP (hf k)).1 hc.2))]
    · rw [if_neg hc, if_neg hc]
def tabW (f : Nat → Nat) : Nat → Nat → Nat
  | 0, _ => 0
  | k + 1, P => if P = k then bestW f (tabW f k) k 32 else tabW f k P
/-- The greatest set for a set of pipes. -/
def mv (f : Nat → Nat) (P : Nat) : Nat := tabW f (P + 1) P
theorem tabW_mv (f : Nat → Nat) : ∀ {k j : Nat}, j < k → tabW f k j = mv f j
  | k + 1, j, h => by
    by_cases he : j = k
    · subst he; rfl
    · rw [tabW, if_neg he, tabW_mv f (by omega)]
theorem mv_is {f : Nat → Nat} {P : Nat} (hP : P < 9223372036854775808) (hf : ∀ p, f p < 9223372036854775808) : bestW f (mv f) P 32 = mv f P := by
  unfold mv
  rw [tabW, if_pos rfl]
  exact bestW_congr hP hf (fun j hj => (tabW_mv f hj).symm) 32
theorem bestW_good {f M : Nat → Nat} {P : Nat} (hP : P < 9223372036854775808) (hf : ∀ p, f p < 9223372036854775808) (h : ∀ j, j < P → Good f j (M j)) :
    ∀ k, k ≤ 32 → Good f P (bestW f M P k) ∧ ∀ w, w < k → f w ≠ 0 → Sub (f w) P → cnt (M (dif P (f w))) + 1 ≤ cnt (bestW f M P k)
  | 0, _ => ⟨good_none f P, fun w hw => by omega⟩
  | k + 1, hk => by
    obtain ⟨g, m⟩ := bestW_good hP hf h k (by omega)
    rw [bestW]
    unfold tryW
    by_cases hc : f k ≠ 0 ∧ dif (f k) P = 0
    · rw [if_pos hc]
      have hs := (sub_dif hP (hf k)).1 hc.2
      obtain ⟨g2, e2⟩ := good_put hP hf (show k < 32 by omega) hc.1 hs (h _ (dif_lt hP (hf k) hc.1 hs))
      by_cases hl : cnt (bestW f M P k) < cnt (put (M (dif P (f k))) k)
      · rw [if_pos hl]
        refine ⟨g2, fun w hw h0 hsw => ?_⟩
        rcases Nat.lt_or_ge w k with h1 | h1
        · have := m w h1 h0 hsw
          omega
        · obtain rfl : w = k := by omega
          omega
      · rw [if_neg hl]
        refine ⟨g, fun w hw h0 hsw => ?_⟩
        rcases Nat.lt_or_ge w k with h1 | h1
        · exact m w h1 h0 hsw
        · obtain rfl : w = k := by omega
          omega
    · rw [if_neg hc]
      refine ⟨g, fun w hw h0 hsw => ?_⟩
      rcases Nat.lt_or_ge w k with h1 | h1
      · exact m w h1 h0 hsw
      · obtain rfl : w = k := by omega
        exact absurd ⟨h0, (sub_dif hP (hf w)).2 hsw⟩ hc
/-- The table holds, for each set of pipes, a greatest set of winds. -/
theorem mv_most {f : Nat → Nat} (hf : ∀ p, f p < 9223372036854775808) (P : Nat) : P < 9223372036854775808 → Good f P (mv f P) ∧ ∀ x, Good f P x → cnt x ≤ cnt (mv f P) := by
  induction P using Nat.strongRecOn with
  | ind P ih =>
    intro hP
    obtain ⟨g, m⟩ := bestW_good (M := mv f) hP hf (fun j hj => (ih j hj (by omega)).1) 32 (Nat.le_refl _)
    rw [mv_is hP hf] at g m
    refine ⟨g, fun x hx => ?_⟩
    by_cases h0 : cnt x = 0
    · omega
    · obtain ⟨w, hw, hxw⟩ := cntK_pos (f := x.testBit) (k := 32) (show 0 < cnt x by omega)
      obtain ⟨g2, e2⟩ := good_cut hP hf hw hxw hx
      obtain ⟨h1, h2⟩ := hx.2.1 w hw hxw
      have h3 := (ih _ (dif_lt hP (hf w) h1 h2) (Nat.lt_of_le_of_lt (dif_le _ _) hP)).2 _ g2
      have h4 := m w hw h1 h2
      omega
end Go.Proofs.Ytfokmgogbjifbaa

/-
  The reference's way to the most winds that are apart: wind by wind, for each set of pipes that is used. It comes to the same number. No walk.
-/
import Derived.Test.YtnnlbllkckakbaaDoorWb7
namespace Go.Proofs.YtnnlbllkckakbaaDoor
open Go.RowKit
set_option linter.unusedVariables false

def moS (u : Nat) (M : Nat → Int) (n : Nat) : Int := if dif u n = 0 ∧ 0 ≤ M (dif n u) then max (M n) (M (dif n u) + 1) else M n
/-- The most winds of the first p that use exactly the pipes n; -1: none do. -/
def mo (f : Nat → Nat) : Nat → Nat → Int
  | 0, n => if n = 0 then 0 else -1
  | p + 1, n => if f p = 0 then mo f p n else moS (f p) (mo f p) n
theorem moS_le (u : Nat) (M : Nat → Int) (n : Nat) : M n ≤ moS u M n := by
  unfold moS
  split <;> omega
theorem mo_ge (f : Nat → Nat) (n : Nat) : ∀ p, -1 ≤ mo f p n
  | 0 => by rw [mo]; split <;> omega
  | p + 1 => by
    have h := mo_ge f n p
    rw [mo]
    split
    · exact h
    · exact Int.le_trans h (moS_le _ _ _)
/-- Winds below p that are apart and use exactly the pipes n. -/
def GoodU (f : Nat → Nat) (p n x : Nat) : Prop :=
  Good f n x ∧ (∀ i, i < 32 → x.testBit i = true → i < p) ∧ ∀ j, n.testBit j = true → ∃ i, i < 32 ∧ x.testBit i = true ∧ (f i).testBit j = true
theorem mo_some {f : Nat → Nat} (hf : ∀ p, f p < 9223372036854775808) : ∀ p, p ≤ 32 → ∀ n, n < 9223372036854775808 → 0 ≤ mo f p n → ∃ x, GoodU f p n x ∧ (cnt x : Int) = mo f p n
  | 0, _, n, hn, h => by
    rw [mo] at h ⊢
    by_cases h0 : n = 0
    · subst h0
      refine ⟨0, ⟨good_none _ _, fun i _ hb => by simp at hb, fun j hj => by simp at hj⟩, ?_⟩
      rw [if_pos rfl]
      have : cnt 0 = 0 := cntK_zero fun j _ => by simp
      rw [this]; rfl
    · rw [if_neg h0] at h
      omega
  | p + 1, hp, n, hn, h => by
    have weak : ∀ {x}, GoodU f p n x → GoodU f (p + 1) n x := fun ⟨a, b, c⟩ => ⟨a, fun i hi hx => by have := b i hi hx; omega, c⟩
    rw [mo] at h ⊢
    by_cases h0 : f p = 0
    · rw [if_pos h0] at h ⊢
      obtain ⟨x, hx, e⟩ := mo_some hf p (by omega) n hn h
      exact ⟨x, weak hx, e⟩
    · rw [if_neg h0] at h ⊢
      unfold moS at h ⊢
      by_cases hc : dif (f p) n = 0 ∧ 0 ≤ mo f p (dif n (f p))
      · rw [if_pos hc] at h ⊢
        by_cases hm : mo f p (dif n (f p)) + 1 ≤ mo f p n
        · obtain ⟨x, hx, e⟩ := mo_some hf p (by omega) n hn (by omega)
          exact ⟨x, weak hx, by omega⟩
        · have hs := (sub_dif hn (hf p)).1 hc.1
          obtain ⟨x, ⟨g, b, u⟩, e⟩ := mo_some hf p (by omega) (dif n (f p)) (Nat.lt_of_le_of_lt (dif_le _ _) hn) hc.2
          obtain ⟨g2, e2⟩ := good_put hn hf (show p < 32 by omega) h0 hs g
          refine ⟨put x p, ⟨g2, ?_, ?_⟩, by omega⟩
          · intro i hi hb
            rw [put_test] at hb
            by_cases he : p = i
            · omega
            · rw [decide_eq_false he, Bool.or_false] at hb
              have := b i hi hb
              omega
          · intro j hj
            cases hb : (f p).testBit j
            · obtain ⟨i, hi, hx, hfi⟩ := u j (by rw [dif_test hn (hf p), hj, hb]; rfl)
              exact ⟨i, hi, by rw [put_test, hx]; rfl, hfi⟩
            · exact ⟨p, by omega, by rw [put_test]; simp, hb⟩
      · rw [if_neg hc] at h ⊢
        obtain ⟨x, hx, e⟩ := mo_some hf p (by omega) n hn h
        exact ⟨x, weak hx, e⟩
theorem mo_all {f : Nat → Nat} (hf : ∀ p, f p < 9223372036854775808) : ∀ p, p ≤ 32 → ∀ n, n < 9223372036854775808 → ∀ x, GoodU f p n x → (cnt x : Int) ≤ mo f p n
  | 0, _, n, hn, x, ⟨g, b, u⟩ => by
    have hx : cnt x = 0 := cntK_zero fun j hj => by
      cases hb : x.testBit j
      · rfl
      · have := b j hj hb
        omega
    have hn0 : n = 0 := Nat.eq_of_testBit_eq fun j => by
      rw [Nat.zero_testBit]
      cases hb : n.testBit j
      · rfl
      · obtain ⟨i, hi, hxi, _⟩ := u j hb
        have := b i hi hxi
        omega
    rw [mo, if_pos hn0, hx]
    decide
  | p + 1, hp, n, hn, x, ⟨g, b, u⟩ => by
    cases hb : x.testBit p
    · have hlow : ∀ i, i < 32 → x.testBit i = true → i < p := fun i hi hx => by
        have h1 := b i hi hx
        rcases Nat.lt_or_ge i p with h2 | h2
        · exact h2
        · obtain rfl : i = p := by omega
          rw [hb] at hx
          cases hx
      have h := mo_all hf p (by omega) n hn x ⟨g, hlow, u⟩
      rw [mo]
      split
      · exact h
      · exact Int.le_trans h (moS_le _ _ _)
    · obtain ⟨h0, hs⟩ := g.2.1 p (by omega) hb
      obtain ⟨g2, e2⟩ := good_cut hn hf (show p < 32 by omega) hb g
      have hlow : ∀ i, i < 32 → (cut x p).testBit i = true → i < p := fun i hi hx => by
        rw [cut_test hi] at hx
        simp at hx
        have := b i hi hx.1
        omega
      have hun : ∀ j, (dif n (f p)).testBit j = true → ∃ i, i < 32 ∧ (cut x p).testBit i = true ∧ (f i).testBit j = true := fun j hj => by
        rw [dif_test hn (hf p)] at hj
        simp at hj
        obtain ⟨i, hi, hxi, hfi⟩ := u j hj.1
        refine ⟨i, hi, ?_, hfi⟩
        rw [cut_test hi, hxi, Bool.true_and, decide_eq_true_eq]
        intro e
        rw [e, hj.2] at hfi
        cases hfi
      have h := mo_all hf p (by omega) (dif n (f p)) (Nat.lt_of_le_of_lt (dif_le _ _) hn) (cut x p) ⟨g2, hlow, hun⟩
      rw [mo, if_neg h0]
      unfold moS
      rw [if_pos ⟨(sub_dif hn (hf p)).2 hs, by omega⟩]
      omega
theorem cnt_le (x : Nat) : cnt x ≤ 32 := cntK_le _ 32
theorem mo_le {f : Nat → Nat} (hf : ∀ p, f p < 9223372036854775808) {p n : Nat} (hp : p ≤ 32) (hn : n < 9223372036854775808) : mo f p n ≤ 32 := by
  rcases Int.lt_or_le (mo f p n) 0 with h | h
  · omega
  · obtain ⟨x, _, e⟩ := mo_some hf p hp n hn h
    have := cnt_le x
    omega
def maxK (M : Nat → Int) : Nat → Int
  | 0 => 0
  | k + 1 => max (maxK M k) (M k)
theorem maxK_le {M : Nat → Int} {B : Int} (hB : 0 ≤ B) : ∀ {k : Nat}, (∀ n, n < k → M n ≤ B) → maxK M k ≤ B
  | 0, _ => hB
  | k + 1, h => by
    have h1 := maxK_le hB (k := k) fun n hn => h n (by omega)
    have h2 := h k (by omega)
    rw [maxK]
    omega
theorem maxK_ge {M : Nat → Int} : ∀ {k n : Nat}, n < k → M n ≤ maxK M k
  | k + 1, n, h => by
    rw [maxK]
    rcases Nat.lt_or_ge n k with h1 | h1
    · have := maxK_ge (M := M) h1
      omega
    · obtain rfl : n = k := by omega
      omega
theorem maxK_pos (M : Nat → Int) : ∀ k, 0 ≤ maxK M k
  | 0 => Int.le_refl _
  | k + 1 => by
    have := maxK_pos M k
    rw [maxK]
    omega
/-- The reference's number is that of the set that Apart returns. -/
theorem most_same {l : List Pt} (h10 : l.length ≤ 10) : maxK (mo (workN l) 32) (2 ^ l.length) = (cnt (apM l) : Int) := by
  have hf := workN_63 h10
  have hpow := pow_small h10
  obtain ⟨g, m⟩ := apM_most h10
  refine Int.le_antisymm (maxK_le (by omega) fun n hn => ?_) ?_
  · rcases Int.lt_or_le (mo (workN l) 32 n) 0 with h | h
    · omega
    · obtain ⟨x, ⟨⟨x1, x2, x3⟩, _, _⟩, e⟩ := mo_some hf 32 (Nat.le_refl _) n (by omega) h
      have := m x ⟨x1, fun p hp hb => ⟨(x2 p hp hb).1, fun j hj => by
        rw [workN_test] at hj
        simp at hj
        rw [full_test]
        simpa using hj.1⟩, x3⟩
      omega
  · have hu : ∀ j, (bitK (fun j => (List.range 32).any fun i => (apM l).testBit i && (workN l i).testBit j) l.length).testBit j = true → ∃ i, i < 32 ∧ (apM l).testBit i = true ∧ (workN l i).testBit j = true := by
      intro j hj
      rcases Nat.lt_or_ge j l.length with h | h
      · rw [bitK_test _ _ _ h, List.any_eq_true] at hj
        obtain ⟨i, hi, hb⟩ := hj
        rw [Bool.and_eq_true] at hb
        exact ⟨i, List.mem_range.1 hi, hb.1, hb.2⟩
      · rw [bitK_high _ h] at hj
        cases hj
    have hlt := bitK_lt (fun j => (List.range 32).any fun i => (apM l).testBit i && (workN l i).testBit j) l.length
    have h1 := mo_all hf 32 (Nat.le_refl _) _ (by omega) (apM l) ⟨⟨g.1, fun p hp hb => ⟨(g.2.1 p hp hb).1, fun j hj => by
      have hjl : j < l.length := by
        rw [workN_test] at hj
        simp at hj
        exact hj.1
      rw [bitK_test _ _ _ hjl, List.any_eq_true]
      exact ⟨p, List.mem_range.2 hp, by rw [hb, hj]; rfl⟩⟩, g.2.2⟩, fun i hi _ => hi, hu⟩
    exact Int.le_trans h1 (maxK_ge hlt)
/-- The row while the sets from n on are done. -/
def moR (u : Nat) (M : Nat → Int) (n j : Nat) : Int := if dif u j = 0 ∧ n ≤ dif j u then moS u M j else M j
theorem moR_start {u : Nat} {M : Nat → Int} {N j : Nat} (hj : j < N) : moR u M N j = M j := by
  have := dif_le j u
  unfold moR
  rw [if_neg (by omega)]
theorem moR_end {u : Nat} (M : Nat → Int) (j : Nat) : moR u M 0 j = moS u M j := by
  unfold moR
  by_cases h : dif u j = 0
  · rw [if_pos ⟨h, Nat.zero_le _⟩]
  · rw [if_neg fun h2 => h h2.1]
    unfold moS
    rw [if_neg fun h2 => h h2.1]
theorem or_dif {n u : Nat} (hn : n < 9223372036854775808) (hu : u < 9223372036854775808) (h : n &&& u = 0) : dif u (n ||| u) = 0 ∧ dif (n ||| u) u = n ∧ n ||| u < 9223372036854775808 := by
  have hl : n ||| u < 2 ^ 63 := Nat.or_lt_two_pow hn hu
  have hl2 : n ||| u < 9223372036854775808 := hl
  have hb : ∀ j, n.testBit j = true → u.testBit j = false := fun j hj => by
    have := congrArg (fun x => x.testBit j) h
    simp [hj] at this
    exact this
  refine ⟨(sub_dif hl2 hu).2 fun j hj => by rw [Nat.testBit_or, hj, Bool.or_true], Nat.eq_of_testBit_eq fun j => ?_, hl2⟩
  rw [dif_test hl2 hu, Nat.testBit_or]
  cases hn2 : n.testBit j
  · cases u.testBit j <;> rfl
  · rw [hb j hn2]; rfl
/-- Which sets become new when n is done. -/
theorem moR_idx {u n j : Nat} (hj : j < 9223372036854775808) (hu : u < 9223372036854775808) (h1 : dif u j = 0) (h2 : dif j u = n) : n &&& u = 0 ∧ j = n ||| u := by
  have hs := (sub_dif hj hu).1 h1
  subst h2
  constructor
  · refine Nat.eq_of_testBit_eq fun i => ?_
    rw [Nat.testBit_and, dif_test hj hu, Nat.zero_testBit]
    cases u.testBit i <;> simp
  · refine Nat.eq_of_testBit_eq fun i => ?_
    rw [Nat.testBit_or, dif_test hj hu]
    cases hb : u.testBit i
    · simp
    · rw [hs i hb]; rfl
theorem moR_skip {u : Nat} {M : Nat → Int} {n j : Nat} (hj : j < 9223372036854775808) (hu : u < 9223372036854775808) (h : n &&& u ≠ 0 ∨ M n < 0) : moR u M n j = moR u M (n + 1) j := by
  unfold moR
  by_cases h1 : dif u j = 0 ∧ n + 1 ≤ dif j u
  · rw [if_pos h1, if_pos ⟨h1.1, by omega⟩]
  · rw [if_neg h1]
    by_cases h2 : dif u j = 0 ∧ n ≤ dif j u
    · rw [if_pos h2]
      have he : dif j u = n := by omega
      obtain ⟨h3, h4⟩ := moR_idx hj hu h2.1 he
      have hM : M n < 0 := by
        rcases h with h | h
        · exact absurd h3 h
        · exact h
      unfold moS
      rw [if_neg fun h5 => by rw [he] at h5; omega]
    · rw [if_neg h2]
theorem moR_do {u : Nat} {M : Nat → Int} {n j : Nat} (hn : n < 9223372036854775808) (hj : j < 9223372036854775808) (hu : u < 9223372036854775808) (h : n &&& u = 0) (h0 : 0 ≤ M n) : moR u M n j = if j = n ||| u then max (M (n ||| u)) (M n + 1) else moR u M (n + 1) j := by
  obtain ⟨o1, o2, _⟩ := or_dif hn hu h
  by_cases he : j = n ||| u
  · rw [if_pos he, he]
    unfold moR
    rw [if_pos ⟨o1, by omega⟩]
    unfold moS
    rw [o2, if_pos ⟨o1, h0⟩]
  · rw [if_neg he]
    unfold moR
    by_cases h1 : dif u j = 0 ∧ n + 1 ≤ dif j u
    · rw [if_pos h1, if_pos ⟨h1.1, by omega⟩]
    · rw [if_neg h1]
      by_cases h2 : dif u j = 0 ∧ n ≤ dif j u
      · exact absurd (moR_idx hj hu h2.1 (by omega)).2 he
      · rw [if_neg h2]
/-- What stands at n, and at the set that n becomes, when n's turn comes. -/
theorem moR_at {u : Nat} {M : Nat → Int} {n : Nat} (hn : n < 9223372036854775808) (hu : u < 9223372036854775808) (h0 : u ≠ 0) (h : n &&& u = 0) : moR u M (n + 1) n = M n ∧ moR u M (n + 1) (n ||| u) = M (n ||| u) := by
  obtain ⟨o1, o2, _⟩ := or_dif hn hu h
  constructor
  · unfold moR
    rw [if_neg fun h1 => ?_]
    have := dif_le n u
    omega
  · unfold moR
    rw [if_neg (by omega)]
end Go.Proofs.YtnnlbllkckakbaaDoor

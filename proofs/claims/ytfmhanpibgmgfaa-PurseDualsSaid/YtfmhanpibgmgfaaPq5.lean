/-
  The Shapley numbers go with the players: theory. No walk.
-/
import Derived.Test.YtfmhanpibgmgfaaPq4
import Derived.Test.YtfmhanpibgmgfaaPa3
import Derived.Test.YtfmhanpibgmgfaaPd1
namespace Go.Proofs.Ytfmhanpibgmgfaa
open Go.RowKit
set_option linter.unusedVariables false

theorem pl_all {o : List Int} {n i : Nat} (h : Ord o n) (hi : i < n) : ∃ j, j < n ∧ plA o j = i := by
  have h1 := (pl_perm h).mem_iff (a := i)
  obtain ⟨j, hj, e⟩ := List.mem_map.1 (h1.1 (List.mem_range.2 hi))
  exact ⟨j, List.mem_range.1 hj, e⟩
theorem mp_ext {o : List Int} {n a b : Nat} (h : Ord o n) (ha : a < 2 ^ n) (hb : b < 2 ^ n) (e : ∀ j, j < n → a.testBit (plA o j) = b.testBit (plA o j)) : a = b := by
  refine Nat.eq_of_testBit_eq fun i => ?_
  by_cases hi : i < n
  · obtain ⟨j, hj, e1⟩ := pl_all h hi
    rw [← e1]
    exact e j hj
  · have h2 : 2 ^ n ≤ 2 ^ i := Nat.pow_le_pow_right (by omega) (by omega)
    rw [Nat.testBit_lt_two_pow (Nat.lt_of_lt_of_le ha h2), Nat.testBit_lt_two_pow (Nat.lt_of_lt_of_le hb h2)]
/-- What was h before. -/
def qbF (o : List Int) (h : Nat) : Nat → Nat
  | 0 => 0
  | i + 1 => if h.testBit (plA o i) = true then qbF o h i ||| 2 ^ i else qbF o h i
theorem qb_lt (o : List Int) (h : Nat) : ∀ i, qbF o h i < 2 ^ i
  | 0 => Nat.one_pos
  | i + 1 => by
    have h1 := qb_lt o h i
    have h2 : 2 ^ i < 2 ^ (i + 1) := Nat.pow_lt_pow_right (by omega) (by omega)
    show (if h.testBit (plA o i) = true then qbF o h i ||| 2 ^ i else qbF o h i) < 2 ^ (i + 1)
    split
    · exact Nat.or_lt_two_pow (by omega) h2
    · omega
theorem qb_test (o : List Int) (h : Nat) : ∀ i j, (qbF o h i).testBit j = (decide (j < i) && h.testBit (plA o j))
  | 0, j => by
    show (0 : Nat).testBit j = _
    simp
  | i + 1, j => by
    have ih := qb_test o h i j
    show (if h.testBit (plA o i) = true then qbF o h i ||| 2 ^ i else qbF o h i).testBit j = _
    by_cases e : j = i
    · subst e
      rw [decide_eq_false (Nat.lt_irrefl _)] at ih
      cases ht : h.testBit (plA o j)
      · rw [if_neg (by simp), ih]
        simp
      · rw [if_pos rfl, Nat.testBit_or, Nat.testBit_two_pow, ih]
        simp
    · have hd : decide (j < i + 1) = decide (j < i) := by
        by_cases hlt : j < i
        · rw [decide_eq_true hlt, decide_eq_true (by omega)]
        · rw [decide_eq_false hlt, decide_eq_false (by omega)]
      rw [hd, ← ih]
      split
      · rw [Nat.testBit_or, Nat.testBit_two_pow, decide_eq_false (fun e2 => e e2.symm), Bool.or_false]
      · rfl
theorem mp_onto {o : List Int} {n h : Nat} (od : Ord o n) (hh : h < 2 ^ n) : ∃ g, g < 2 ^ n ∧ mpF o g n = h := by
  refine ⟨qbF o h n, qb_lt o h n, mp_ext od (mp_lt od _ n (Nat.le_refl _)) hh fun j hj => ?_⟩
  rw [mp_bit od _ hj, qb_test, decide_eq_true hj, Bool.true_and]
theorem mp_or {o : List Int} {n g p : Nat} (od : Ord o n) (hg : g < 2 ^ n) (hp : p < n) : mpF o (g ||| 2 ^ p) n = mpF o g n ||| 2 ^ plA o p := by
  refine mp_ext od (mp_lt od _ n (Nat.le_refl _)) (Nat.or_lt_two_pow (mp_lt od _ n (Nat.le_refl _)) (Nat.pow_lt_pow_right (by omega) (plA_lt od hp).1)) fun j hj => ?_
  rw [mp_bit od _ hj, Nat.testBit_or, Nat.testBit_or, mp_bit od _ hj, Nat.testBit_two_pow, Nat.testBit_two_pow]
  congr 1
  by_cases e : p = j
  · rw [decide_eq_true e, decide_eq_true (by rw [e])]
  · rw [decide_eq_false e, decide_eq_false (fun e2 => e (plA_inj od hp hj e2))]
theorem sI_list (f : Nat → Int) : ∀ n, sI f n = ((List.range n).map f).sum
  | 0 => rfl
  | n + 1 => by
    show sI f n + f n = _
    rw [sI_list f n, List.range_succ, List.map_append, List.sum_append]
    simp
theorem mp_perm {o : List Int} {n : Nat} (od : Ord o n) : (List.range (2 ^ n)).Perm ((List.range (2 ^ n)).map fun g => mpF o g n) := by
  have hb : ordB ((List.range (2 ^ n)).map fun g => ((mpF o g n : Nat) : Int)) (2 ^ n) = true := by
    unfold ordB
    rw [Bool.and_eq_true, decide_eq_true_iff, List.all_eq_true]
    exact ⟨by simp, fun k hk => by
      rw [List.contains_iff_mem, List.mem_map]
      obtain ⟨g, hg, e⟩ := mp_onto od (List.mem_range.1 hk)
      exact ⟨g, List.mem_range.2 hg, by rw [e]⟩⟩
  have hp := (ordB_perm.1 hb).map Int.toNat
  have e1 : (rgI (2 ^ n)).map Int.toNat = List.range (2 ^ n) := by
    unfold rgI
    rw [List.map_map]
    exact (List.map_congr_left (fun a _ => rfl)).trans (List.map_id _)
  rw [e1, List.map_map] at hp
  exact hp
theorem mp_sum {o : List Int} {n : Nat} (od : Ord o n) (f : Nat → Int) : sI f (2 ^ n) = sI (fun g => f (mpF o g n)) (2 ^ n) := by
  rw [sI_list, sI_list, perm_sum ((mp_perm od).map f), List.map_map]
  rfl
/-- The exchanged purse has the same Shapley numbers at the exchanged players. -/
theorem pq_mean {v o : List Int} {n p : Nat} (pv : Pv v n) (od : Ord o n) (ho : orE v o = 0) (hp : p < n) : meanF (pqL v o) wS n (plA o p) = meanF v wS n p := by
  have hL : pqL v o = rowF (pmF v o n (2 ^ n)) (2 ^ n) := by unfold pqL; rw [if_pos ho, od.len, pv.len]
  have hc : ∀ g, g < 2 ^ n → nth (pqL v o) (mpF o g n) = nth v g := fun g hg => by
    rw [hL, nth_get (rowF_get (mp_lt od g n (Nat.le_refl _)))]
    exact pm_at od _ (Nat.le_refl _) g hg
  have hs : sI (addG (pqL v o) wS n (plA o p)) (2 ^ n) = sI (addG v wS n p) (2 ^ n) := by
    rw [mp_sum od]
    refine sI_congr fun g hg => ?_
    show (if (mpF o g n).testBit (plA o p) = true then 0 else wS (popN (mpF o g n)) (n - 1 - popN (mpF o g n)) * (nth (pqL v o) (mpF o g n ||| 2 ^ plA o p) - nth (pqL v o) (mpF o g n))) = _
    rw [mp_bit od g hp, mp_pop od pv.five hg, ← mp_or od hg hp, hc g hg, hc _ (Nat.or_lt_two_pow hg (Nat.pow_lt_pow_right (by omega) hp))]
    rfl
  unfold meanF
  rw [hs, wsum_fac pv.five hp, wsum_fac pv.five (plA_lt od hp).1]
end Go.Proofs.Ytfmhanpibgmgfaa

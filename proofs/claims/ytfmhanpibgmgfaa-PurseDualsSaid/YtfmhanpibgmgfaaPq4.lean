/-
  The purse with exchanged players: what becomes of its groups. Theory. No walk.
-/
import Derived.Test.YtfmhanpibgmgfaaPq1
namespace Go.Proofs.Ytfmhanpibgmgfaa
open Go.RowKit
set_option linter.unusedVariables false

theorem mp_bit {o : List Int} {n : Nat} (h : Ord o n) (g : Nat) {j : Nat} (hj : j < n) : (mpF o g n).testBit (plA o j) = g.testBit j := by
  rw [mp_test h g n (Nat.le_refl _) j hj, decide_eq_true hj, Bool.true_and]
theorem mp_inj {o : List Int} {n g k : Nat} (h : Ord o n) (hg : g < 2 ^ n) (hk : k < 2 ^ n) (e : mpF o g n = mpF o k n) : g = k := by
  refine Nat.eq_of_testBit_eq fun j => ?_
  by_cases hj : j < n
  · rw [← mp_bit h g hj, ← mp_bit h k hj, e]
  · have h2 : 2 ^ n ≤ 2 ^ j := Nat.pow_le_pow_right (by omega) (by omega)
    rw [Nat.testBit_lt_two_pow (Nat.lt_of_lt_of_le hg h2), Nat.testBit_lt_two_pow (Nat.lt_of_lt_of_le hk h2)]
theorem pm_at {v o : List Int} {n : Nat} (h : Ord o n) : ∀ k, k ≤ 2 ^ n → ∀ g, g < k → pmF v o n k (mpF o g n) = nth v g
  | 0, _, g, hg => by omega
  | k + 1, hk, g, hg => by
    show (if mpF o g n = mpF o k n then nth v k else pmF v o n k (mpF o g n)) = nth v g
    by_cases e : g = k
    · rw [e, if_pos rfl]
    · rw [if_neg (fun e2 => e (mp_inj h (by omega) (by omega) e2))]
      exact pm_at h k (by omega) g (by omega)
theorem pl_perm {o : List Int} {n : Nat} (h : Ord o n) : (List.range n).Perm ((List.range n).map (plA o)) := by
  have hb : ordB o n = true := by
    unfold ordB
    rw [Bool.and_eq_true, decide_eq_true_iff, List.all_eq_true]
    exact ⟨h.len, fun k hk => by
      rw [List.contains_iff_mem]
      exact h.al k (List.mem_range.1 hk)⟩
  have hp := (ordB_perm.1 hb).map Int.toNat
  have e1 : (rgI n).map Int.toNat = List.range n := by
    unfold rgI
    rw [List.map_map]
    exact (List.map_congr_left (fun a _ => rfl)).trans (List.map_id _)
  have e2 : o.map Int.toNat = (List.range n).map (plA o) := by
    refine List.ext_getElem? fun i => ?_
    rw [List.getElem?_map, List.getElem?_map]
    by_cases hi : i < n
    · rw [get_nth (by rw [h.len]; exact hi), List.getElem?_range hi]
      rfl
    · rw [List.getElem?_eq_none (by rw [h.len]; omega), List.getElem?_eq_none (by rw [List.length_range]; omega)]
      rfl
  rw [e1, e2] at hp
  exact hp
theorem pop_count : ∀ n : Fin 6, ∀ g : Fin 32, g.val < 2 ^ n.val → (List.range n.val).countP (fun j => g.val.testBit j) = popN g.val := by decide +kernel
/-- So many players as before. -/
theorem mp_pop {o : List Int} {n g : Nat} (h : Ord o n) (hn : n ≤ 5) (hg : g < 2 ^ n) : popN (mpF o g n) = popN g := by
  have h32 : 2 ^ n ≤ 2 ^ 5 := Nat.pow_le_pow_right (by omega) hn
  have hm := mp_lt h g n (Nat.le_refl _)
  have c1 := pop_count ⟨n, by omega⟩ ⟨mpF o g n, by omega⟩ hm
  have c2 := pop_count ⟨n, by omega⟩ ⟨g, by omega⟩ hg
  simp only at c1 c2
  rw [← c1, ← c2, (pl_perm h).countP_eq, List.countP_map]
  refine List.countP_congr fun j hj => ?_
  show (mpF o g n).testBit (plA o j) = true ↔ g.testBit j = true
  rw [mp_bit h g (List.mem_range.1 hj)]
end Go.Proofs.Ytfmhanpibgmgfaa

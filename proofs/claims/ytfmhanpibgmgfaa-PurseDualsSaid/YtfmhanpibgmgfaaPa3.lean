/-
  The Shapley numbers of a sum: theory. No walk.
-/
import Derived.Test.YtfmhanpibgmgfaaPu6
import Derived.Test.YtfmhanpibgmgfaaPa1
namespace Go.Proofs.Ytfmhanpibgmgfaa
open Go.RowKit
set_option linter.unusedVariables false

theorem fac_dvd : ∀ n : Fin 6, 0 < facN n.val ∧ facN n.val ∣ 120 := by decide +kernel
/-- In lowest terms, over 120. -/
theorem fr_mul {t d k : Int} (hd : 0 < d) (hk : 120 = d * k) : 1 ≤ (frZ t d).2 ∧ (frZ t d).2 ≤ 120 ∧ (frZ t d).1 * Int.tdiv 120 (frZ t d).2 = t * k := by
  have hkp : 0 < k := by
    rcases Int.lt_or_le 0 k with h | h
    · exact h
    · have := Int.mul_nonneg_of_nonpos_of_nonpos (a := -d) (b := k) (by omega) h
      rw [Int.neg_mul] at this
      omega
  obtain ⟨g, hg⟩ : ∃ g, gcdZ t d = g := ⟨_, rfl⟩
  have hgp : 0 < g := by rw [← hg]; exact Nat.gcd_pos_of_pos_right _ (by omega)
  have h1 : (g : Int) ∣ t := by
    rw [← hg]
    exact Int.ofNat_dvd_left.2 (Nat.gcd_dvd_left _ _)
  have h2 : (g : Int) ∣ d := by
    rw [← hg]
    exact Int.ofNat_dvd_left.2 (Nat.gcd_dvd_right _ _)
  obtain ⟨a, ha⟩ := h1
  obtain ⟨b, hb⟩ := h2
  have e1 : (frZ t d).1 = a := by
    show Int.tdiv t (gcdZ t d : Nat) = a
    rw [hg, ha]
    exact Int.mul_tdiv_cancel_left _ (by omega)
  have e2 : (frZ t d).2 = b := by
    show Int.tdiv d (gcdZ t d : Nat) = b
    rw [hg, hb]
    exact Int.mul_tdiv_cancel_left _ (by omega)
  have hbp : 0 < b := by
    rcases Int.lt_or_le 0 b with h | h
    · exact h
    · have := Int.mul_nonneg_of_nonpos_of_nonpos (a := -(g : Int)) (b := b) (by omega) h
      rw [Int.neg_mul] at this
      omega
  have h120 : (120 : Int) = b * ((g : Int) * k) := by
    rw [hk, hb, Int.mul_comm (g : Int) b, Int.mul_assoc]
  have hgk : 0 < (g : Int) * k := Int.mul_pos (by omega) hkp
  rw [e1, e2]
  refine ⟨by omega, ?_, ?_⟩
  · rw [h120]
    have h3 := Int.mul_le_mul_of_nonneg_left (show (1 : Int) ≤ (g : Int) * k by omega) (show 0 ≤ b by omega)
    rw [Int.mul_one] at h3
    exact h3
  · rw [h120, Int.mul_tdiv_cancel_left _ (by omega), ha, ← Int.mul_assoc, Int.mul_comm a]
theorem wsum_small : ∀ n : Fin 6, ∀ p : Fin 5, p.val < n.val → sI (wgtG wS n.val p.val) (2 ^ n.val) = (facN n.val : Int) := by decide +kernel
theorem wsum_fac {n p : Nat} (hn : n ≤ 5) (hp : p < n) : sI (wgtG wS n p) (2 ^ n) = (facN n : Int) := wsum_small ⟨n, by omega⟩ ⟨p, by omega⟩ hp
def k120 (n : Nat) : Int := Int.tdiv 120 (facN n : Int)
theorem k120_ok : ∀ n : Fin 6, 120 = (facN n.val : Int) * k120 n.val ∧ 1 ≤ k120 n.val ∧ k120 n.val ≤ 120 := by decide +kernel
/-- A Shapley number over 120. -/
theorem sh_120 {v : List Int} {n p : Nat} (hn : n ≤ 5) (hp : p < n) : 1 ≤ (meanF v wS n p).2 ∧ (meanF v wS n p).2 ≤ 120 ∧ (meanF v wS n p).1 * Int.tdiv 120 (meanF v wS n p).2 = sI (addG v wS n p) (2 ^ n) * k120 n := by
  unfold meanF
  rw [wsum_fac hn hp]
  exact fr_mul (by have := (fac_dvd ⟨n, by omega⟩).1; simp only at this; omega) (k120_ok ⟨n, by omega⟩).1
theorem nth_ad {v u : List Int} {L g : Nat} (h : g < L) : nth (rowF (adF v u) L) g = nth v g + nth u g := nth_get (rowF_get h)
theorem add_lin {v u : List Int} {n p : Nat} (hp : p < n) : sI (addG (rowF (adF v u) (2 ^ n)) wS n p) (2 ^ n) = sI (addG v wS n p) (2 ^ n) + sI (addG u wS n p) (2 ^ n) := by
  rw [← sI_add]
  refine sI_congr fun g hg => ?_
  have h2 : g ||| 2 ^ p < 2 ^ n := Nat.or_lt_two_pow hg (Nat.pow_lt_pow_right (by omega) hp)
  unfold addG
  by_cases h : g.testBit p = true
  · rw [if_pos h, if_pos h, if_pos h]
    rfl
  · rw [if_neg h, if_neg h, if_neg h, nth_ad hg, nth_ad h2, ← Int.mul_add]
    congr 1
    omega
/-- The sum of two purses is one. -/
theorem ad_pv {v u : List Int} (h : adE v u = 0) : ∃ n, Pv v n ∧ Pv u n ∧ Pv (adL v u) n ∧ vdE v = 0 ∧ vdE u = 0 ∧ vdE (adL v u) = 0 ∧ upB 1000 v = true ∧ upB 1000 u = true ∧ upB 1000 (adL v u) = true ∧ adL v u = rowF (adF v u) (2 ^ n) ∧ adLen v u = 2 ^ n := by
  have hL : adL v u = rowF (adF v u) v.length := if_pos h
  have hN : adLen v u = v.length := if_pos h
  unfold adE at h
  split at h
  case isFalse => contradiction
  rename_i hv
  split at h
  case isFalse => contradiction
  rename_i hu
  split at h
  case isFalse => cases h
  rename_i hlen
  split at h
  case isFalse => cases h
  rename_i hup3
  obtain ⟨n, pv, hup⟩ := vdE_pv hv
  obtain ⟨n2, pu, hup2⟩ := vdE_pv hu
  have hn2 : n2 = n := by rw [← pu.pl, ← pv.pl, hlen]
  subst hn2
  have hz : nth (adL v u) 0 = 0 := by
    rw [hL, nth_ad (by rw [pv.len]; exact Nat.two_pow_pos n2), pv.zero, pu.zero]
    rfl
  have hll : (adL v u).length = v.length := by rw [hL, rowF_len]
  have pa : Pv (adL v u) n2 := ⟨pv.one, pv.five, by rw [hll, pv.len], by rw [hll, pv.pl], hz⟩
  refine ⟨n2, pv, pu, pa, hv, hu, ?_, hup, hup2, by rw [hL]; exact hup3, by rw [hL, pv.len], by rw [hN, pv.len]⟩
  unfold vdE
  rw [fg_yes pa.one pa.five pa.len, hz, hL, hup3]
  rfl
end Go.Proofs.Ytfmhanpibgmgfaa

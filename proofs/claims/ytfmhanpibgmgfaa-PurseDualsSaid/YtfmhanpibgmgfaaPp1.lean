/-
  Linear functionals of a purse: the Shapley numbers are parts of the dividends. Theory. No walk.
-/
import Derived.Test.YtfmhanpibgmgfaaPa3
import Derived.Test.YtfmhanpibgmgfaaPd1
namespace Go.Proofs.Ytfmhanpibgmgfaa
open Go.RowKit
set_option linter.unusedVariables false

theorem fr_dvd {t d k : Int} (hd : 0 < d) (hk : 120 = d * k) : ∃ m : Int, 120 = (frZ t d).2 * m := by
  obtain ⟨g, hg⟩ : ∃ g, gcdZ t d = g := ⟨_, rfl⟩
  have hgp : 0 < g := by rw [← hg]; exact Nat.gcd_pos_of_pos_right _ (by omega)
  have h2 : (g : Int) ∣ d := by
    rw [← hg]
    exact Int.ofNat_dvd_left.2 (Nat.gcd_dvd_right _ _)
  obtain ⟨b, hb⟩ := h2
  have e2 : (frZ t d).2 = b := by
    show Int.tdiv d (gcdZ t d : Nat) = b
    rw [hg, hb]
    exact Int.mul_tdiv_cancel_left _ (by omega)
  exact ⟨(g : Int) * k, by rw [e2, hk, hb, Int.mul_comm (g : Int) b, Int.mul_assoc]⟩
/-- What is a sum of multiples of the numbers of the first 32 groups. -/
def Lin (T : (Nat → Int) → Int) : Prop := ∃ c : Nat → Int, ∀ f, T f = sI (fun k => c k * f k) 32
def dlt (k g : Nat) : Int := if g = k then 1 else 0
theorem sI_pick0 (f : Nat → Int) {k : Nat} : ∀ n, n ≤ k → sI (fun j => f j * dlt k j) n = 0
  | 0, _ => rfl
  | n + 1, h => by
    show sI (fun j => f j * dlt k j) n + f n * dlt k n = 0
    rw [sI_pick0 f n (by omega)]
    unfold dlt
    rw [if_neg (by omega)]
    simp
theorem sI_pick (f : Nat → Int) {k : Nat} : ∀ n, k < n → sI (fun j => f j * dlt k j) n = f k
  | 0, h => by omega
  | n + 1, h => by
    show sI (fun j => f j * dlt k j) n + f n * dlt k n = f k
    by_cases e : n = k
    · subst e
      rw [sI_pick0 f n (Nat.le_refl _)]
      unfold dlt
      simp
    · rw [sI_pick f n (by omega)]
      unfold dlt
      rw [if_neg e]
      simp
theorem Lin.at_ {k : Nat} (h : k < 32) : Lin (fun f => f k) := ⟨dlt k, fun f => by
  rw [sI_congr (g := fun j => f j * dlt k j) (fun j _ => Int.mul_comm _ _), sI_pick f 32 h]⟩
theorem Lin.add {T U : (Nat → Int) → Int} : Lin T → Lin U → Lin (fun f => T f + U f)
  | ⟨c, hc⟩, ⟨d, hd⟩ => ⟨fun k => c k + d k, fun f => by
    show T f + U f = _
    rw [hc, hd, ← sI_add]
    exact sI_congr fun k _ => (Int.add_mul _ _ _).symm⟩
theorem Lin.mul (a : Int) {T : (Nat → Int) → Int} : Lin T → Lin (fun f => a * T f)
  | ⟨c, hc⟩ => ⟨fun k => a * c k, fun f => by
    show a * T f = _
    rw [hc, ← sI_mul]
    exact sI_congr fun k _ => (Int.mul_assoc _ _ _).symm⟩
theorem Lin.sub {T U : (Nat → Int) → Int} (hT : Lin T) (hU : Lin U) : Lin (fun f => T f - U f) := by
  obtain ⟨c, hc⟩ := hT.add (hU.mul (-1))
  exact ⟨c, fun f => by rw [← hc]; show T f - U f = T f + -1 * U f; omega⟩
theorem Lin.zero : Lin (fun _ => 0) := ⟨fun _ => 0, fun f => by
  rw [sI_congr (g := fun _ => 0) (fun j _ => Int.zero_mul _), sI_zero]⟩
theorem Lin.sum {T : Nat → (Nat → Int) → Int} : ∀ n, (∀ g, g < n → Lin (T g)) → Lin (fun f => sI (fun g => T g f) n)
  | 0, _ => Lin.zero
  | n + 1, h => (Lin.sum n (fun g hg => h g (by omega))).add (h n (Nat.lt_succ_self n))
theorem Lin.ext {T U : (Nat → Int) → Int} (hT : Lin T) (hU : Lin U) (h : ∀ k, k < 32 → T (dlt k) = U (dlt k)) (f : Nat → Int) : T f = U f := by
  obtain ⟨c, hc⟩ := hT
  obtain ⟨d, hd⟩ := hU
  rw [hc, hd]
  refine sI_congr fun k hk => ?_
  have := h k hk
  rw [hc, hd, sI_pick c 32 hk, sI_pick d 32 hk] at this
  rw [this]
theorem tf_lin (s : Int) : ∀ n, n ≤ 5 → ∀ g, g < 32 → Lin (fun f => tfF f s n g)
  | 0, _, g, hg => Lin.at_ hg
  | n + 1, hn, g, hg => by
    show Lin (fun f => stepF s n (tfF f s n) g)
    unfold stepF
    have h1 := tf_lin s n (by omega) g hg
    by_cases h : g.testBit n = true
    · simp only [h, if_true]
      have h2 : 2 ^ n < 2 ^ 5 := Nat.pow_lt_pow_right (by omega) (by omega)
      exact h1.add ((tf_lin s n (by omega) (g ^^^ 2 ^ n) (Nat.xor_lt_two_pow (n := 5) (by omega) h2)).mul s)
    · simp only [h]
      exact h1
/-- What the law adds up for one player. -/
def parG (d : Nat → Int) (p g : Nat) : Int := if g.testBit p = true then d g * Int.tdiv 60 (popN g : Int) else 0
def parT (n p : Nat) (f : Nat → Int) : Int := sI (parG (tfF f (-1) n) p) (2 ^ n)
def shT (n p : Nat) (f : Nat → Int) : Int := sI (fun g => if g.testBit p = true then 0 else wS (popN g) (n - 1 - popN g) * (f (g ||| 2 ^ p) - f g)) (2 ^ n)
theorem par_lin {n p : Nat} (hn : n ≤ 5) : Lin (parT n p) := by
  have h32 : 2 ^ n ≤ 2 ^ 5 := Nat.pow_le_pow_right (by omega) hn
  refine Lin.sum (T := fun g f => parG (tfF f (-1) n) p g) (2 ^ n) fun g hg => ?_
  unfold parG
  by_cases h : g.testBit p = true
  · simp only [h, if_true]
    obtain ⟨c, hc⟩ := (tf_lin (-1) n hn g (by omega)).mul (Int.tdiv 60 (popN g : Int))
    exact ⟨c, fun f => by rw [← hc]; exact Int.mul_comm _ _⟩
  · simp only [h]
    exact Lin.zero
theorem sh_lin {n p : Nat} (hn : n ≤ 5) (hp : p < n) : Lin (shT n p) := by
  have h32 : 2 ^ n ≤ 2 ^ 5 := Nat.pow_le_pow_right (by omega) hn
  refine Lin.sum (T := fun g f => if g.testBit p = true then 0 else wS (popN g) (n - 1 - popN g) * (f (g ||| 2 ^ p) - f g)) (2 ^ n) fun g hg => ?_
  have h2 : g ||| 2 ^ p < 2 ^ n := Nat.or_lt_two_pow hg (Nat.pow_lt_pow_right (by omega) hp)
  by_cases h : g.testBit p = true
  · simp only [h, if_true]
    exact Lin.zero
  · simp only [h]
    exact ((Lin.at_ (by omega)).sub (Lin.at_ (by omega))).mul _
set_option maxRecDepth 100000 in
theorem par_unit : ∀ n : Fin 6, ∀ p : Fin 5, p.val < n.val → ∀ k : Fin 32, 2 * parT n.val p.val (dlt k.val) = k120 n.val * shT n.val p.val (dlt k.val) := by decide +kernel
theorem par_sh {v : List Int} {n p : Nat} (hn : n ≤ 5) (hp : p < n) : 2 * sI (parG (tfF (nth v) (-1) n) p) (2 ^ n) = sI (addG v wS n p) (2 ^ n) * k120 n := by
  have := Lin.ext ((par_lin (p := p) hn).mul 2) ((sh_lin hn hp).mul (k120 n)) (fun k hk => par_unit ⟨n, by omega⟩ ⟨p, by omega⟩ hp ⟨k, hk⟩) (nth v)
  rw [Int.mul_comm _ (k120 n)]
  exact this
/-- The law's test. -/
theorem par_test {v : List Int} {n p : Nat} (hn : n ≤ 5) (hp : p < n) : (meanF v wS n p).1 * 60 = sI (parG (tfF (nth v) (-1) n) p) (2 ^ n) * (meanF v wS n p).2 := by
  have h1 := sh_120 (v := v) hn hp
  obtain ⟨m, hm⟩ : ∃ m : Int, 120 = (meanF v wS n p).2 * m := by
    unfold meanF
    rw [wsum_fac hn hp]
    exact fr_dvd (by have := (fac_dvd ⟨n, by omega⟩).1; simp only at this; omega) (k120_ok ⟨n, by omega⟩).1
  have h2 := par_sh (v := v) hn hp
  generalize sI (parG (tfF (nth v) (-1) n) p) (2 ^ n) = s at *
  generalize sI (addG v wS n p) (2 ^ n) * k120 n = t at *
  generalize (meanF v wS n p) = q at *
  obtain ⟨x, d⟩ := q
  simp only at *
  have hd : Int.tdiv 120 d = m := by
    rw [hm]
    exact Int.mul_tdiv_cancel_left _ (by omega)
  obtain ⟨g1, _, h3⟩ := h1
  rw [hd, ← h2] at h3
  have hmp : m ≠ 0 := by
    intro e
    rw [e] at hm
    omega
  refine Int.eq_of_mul_eq_mul_right hmp ?_
  calc x * 60 * m = x * m * 60 := by rw [Int.mul_assoc, Int.mul_comm 60 m, ← Int.mul_assoc]
    _ = 2 * s * 60 := by rw [h3]
    _ = s * 120 := by omega
    _ = s * (d * m) := by rw [← hm]
    _ = s * d * m := (Int.mul_assoc _ _ _).symm
end Go.Proofs.Ytfmhanpibgmgfaa

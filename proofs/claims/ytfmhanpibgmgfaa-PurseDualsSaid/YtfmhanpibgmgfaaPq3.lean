/-
  The Shapley numbers of the dual purse: theory. No walk.
-/
import Derived.Test.YtfmhanpibgmgfaaPp1
import Derived.Test.YtfmhanpibgmgfaaDu1
namespace Go.Proofs.Ytfmhanpibgmgfaa
open Go.RowKit
set_option linter.unusedVariables false

def duT (N : Nat) (f : Nat → Int) (g : Nat) : Int := f (N - 1) - f (N - 1 - g)
theorem du_lin {n p : Nat} (hn : n ≤ 5) (hp : p < n) : Lin (fun f => shT n p (duT (2 ^ n) f)) := by
  have h32 : 2 ^ n ≤ 2 ^ 5 := Nat.pow_le_pow_right (by omega) hn
  have h0 : 0 < 2 ^ n := Nat.two_pow_pos n
  refine Lin.sum (T := fun g f => if g.testBit p = true then 0 else wS (popN g) (n - 1 - popN g) * (duT (2 ^ n) f (g ||| 2 ^ p) - duT (2 ^ n) f g)) (2 ^ n) fun g hg => ?_
  by_cases h : g.testBit p = true
  · simp only [h, if_true]
    exact Lin.zero
  · simp only [h]
    exact (((Lin.at_ (by omega)).sub (Lin.at_ (by omega))).sub ((Lin.at_ (by omega)).sub (Lin.at_ (by omega)))).mul _
set_option maxRecDepth 100000 in
theorem du_unit : ∀ n : Fin 6, ∀ p : Fin 5, p.val < n.val → ∀ k : Fin 32, shT n.val p.val (duT (2 ^ n.val) (dlt k.val)) = shT n.val p.val (dlt k.val) := by decide +kernel
theorem sh_congr {f g : Nat → Int} {n p : Nat} (hp : p < n) (h : ∀ k, k < 2 ^ n → f k = g k) : shT n p f = shT n p g :=
  sI_congr fun k hk => by
    rw [h k hk, h (k ||| 2 ^ p) (Nat.or_lt_two_pow hk (Nat.pow_lt_pow_right (by omega) hp))]
/-- The dual purse has the same Shapley numbers. -/
theorem du_sh {v : List Int} {n p : Nat} (pv : Pv v n) (hp : p < n) (h : duE v = 0) : sI (addG (duL v) wS n p) (2 ^ n) = sI (addG v wS n p) (2 ^ n) := by
  have h1 : shT n p (nth (duL v)) = shT n p (duT (2 ^ n) (nth v)) := sh_congr hp fun k hk => by
    have e : duL v = rowF (duF v) v.length := if_pos h
    rw [e, nth_get (rowF_get (by rw [pv.len]; exact hk))]
    unfold duF duT
    rw [pv.len]
  have h2 := Lin.ext (du_lin pv.five hp) (sh_lin pv.five hp) (fun k hk => du_unit ⟨n, by have := pv.five; omega⟩ ⟨p, by have := pv.five; omega⟩ hp ⟨k, hk⟩) (nth v)
  exact h1.trans h2
theorem du_mean {v : List Int} {n p : Nat} (pv : Pv v n) (hp : p < n) (h : duE v = 0) : meanF (duL v) wS n p = meanF v wS n p := by
  unfold meanF
  rw [du_sh pv hp h]
end Go.Proofs.Ytfmhanpibgmgfaa

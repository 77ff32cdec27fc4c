/-
  Sets that shrink: a step that takes away, again and again; where it ends. No program in sight.
-/
import Derived.Test.YtldepjpalhmpnaaLb4
namespace Go.Proofs.Ytldepjpalhmpnaa
open Go.RowKit
set_option linter.unusedVariables false

def itr (f : Nat → Nat) (S : Nat) : Nat → Nat
  | 0 => S
  | k + 1 => f (itr f S k)
def Mono (f : Nat → Nat) : Prop := ∀ X Y, sub X Y → sub (f X) (f Y)
section
variable {f : Nat → Nat} {S n : Nat}
theorem itr_down (hm : Mono f) (hs : sub (f S) S) : ∀ k, sub (itr f S (k + 1)) (itr f S k)
  | 0 => hs
  | k + 1 => hm _ _ (itr_down hm hs k)
theorem itr_in (hm : Mono f) (hs : sub (f S) S) : ∀ k, sub (itr f S k) S
  | 0 => sub_refl _
  | k + 1 => (itr_down hm hs k).trans (itr_in hm hs k)
theorem sub_lt {X Y n : Nat} (h : sub X Y) (hY : Y < 2 ^ n) : X < 2 ^ n := by
  apply Nat.lt_pow_two_of_testBit
  intro j hj
  cases hb : X.testBit j
  · rfl
  · have := bit_in hY (h j hb)
    omega
theorem itr_lt (hm : Mono f) (hs : sub (f S) S) (hS : S < 2 ^ n) (k : Nat) : itr f S k < 2 ^ n := sub_lt (itr_in hm hs k) hS
theorem itr_same {k : Nat} (h : f (itr f S k) = itr f S k) : ∀ j, itr f S (k + j) = itr f S k
  | 0 => rfl
  | j + 1 => by
    show f (itr f S (k + j)) = _
    rw [itr_same h j]
    exact h
theorem itr_cnt (hm : Mono f) (hs : sub (f S) S) (hS : S < 2 ^ n) : ∀ k, (∀ j, j < k → f (itr f S j) ≠ itr f S j) → cntK (itr f S k).testBit n + k ≤ n
  | 0, _ => by have := cntK_le (itr f S 0).testBit n; omega
  | k + 1, h => by
    have ih := itr_cnt hm hs hS k fun j hj => h j (by omega)
    have := sub_less (itr_lt hm hs hS k) (itr_down hm hs k) (h k (by omega))
    omega
theorem itr_end (hm : Mono f) (hs : sub (f S) S) (hS : S < 2 ^ n) {k : Nat} (h : f (itr f S k) = itr f S k) : itr f S k = itr f S n := by
  have hex : ∃ i, i ≤ n ∧ f (itr f S i) = itr f S i := by
    apply Classical.byContradiction
    intro hno
    have := itr_cnt hm hs hS (n + 1) fun j hj he => hno ⟨j, by omega, he⟩
    omega
  obtain ⟨i, hi, hf⟩ := hex
  have e2 := itr_same hf (n - i)
  rw [show i + (n - i) = n by omega] at e2
  rw [e2]
  rcases Nat.lt_or_ge k i with h1 | h1
  · have := itr_same h (i - k)
    rw [show k + (i - k) = i by omega] at this
    exact this.symm
  · have := itr_same hf (k - i)
    rw [show i + (k - i) = k by omega] at this
    exact this
theorem itr_fix (hm : Mono f) (hs : sub (f S) S) (hS : S < 2 ^ n) : f (itr f S n) = itr f S n := by
  have hex : ∃ i, i ≤ n ∧ f (itr f S i) = itr f S i := by
    apply Classical.byContradiction
    intro hno
    have := itr_cnt hm hs hS (n + 1) fun j hj he => hno ⟨j, by omega, he⟩
    omega
  obtain ⟨i, hi, hf⟩ := hex
  have e2 := itr_same hf (n - i)
  rw [show i + (n - i) = n by omega] at e2
  rw [e2]
  exact hf
/-- What keeps lies in where it ends. -/
theorem itr_great (hm : Mono f) {X : Nat} (hX : sub X (f X)) (hS : sub X S) : ∀ k, sub X (itr f S k)
  | 0 => hS
  | k + 1 => hX.trans (hm _ _ (itr_great hm hX hS k))
end

/-! ### Keeping to a set, visiting again and again -/
def kpF (G : Gm) (X : Nat) : Nat := X &&& fcN G 0 X
def kpN (G : Gm) (S : Nat) : Nat := itr (kpF G) S G.own.length
theorem and_sub_left (X Y : Nat) : sub (X &&& Y) X := fun j hj => by
  rw [Nat.testBit_and, Bool.and_eq_true] at hj
  exact hj.1
theorem and_sub_right (X Y : Nat) : sub (X &&& Y) Y := fun j hj => by
  rw [Nat.testBit_and, Bool.and_eq_true] at hj
  exact hj.2
theorem and_sub {a b c d : Nat} (h : sub a c) (g : sub b d) : sub (a &&& b) (c &&& d) := fun j hj => by
  rw [Nat.testBit_and, Bool.and_eq_true] at hj ⊢
  exact ⟨h j hj.1, g j hj.2⟩
theorem kp_mono (G : Gm) : Mono (kpF G) := fun X Y h => and_sub h (fcN_mono h)
theorem kp_sub (G : Gm) (S : Nat) : sub (kpF G S) S := and_sub_left _ _
theorem kp_in (G : Gm) (S : Nat) : sub (kpN G S) S := itr_in (kp_mono G) (kp_sub G S) _
theorem kp_lt {G : Gm} {S : Nat} (hS : S < 2 ^ G.own.length) : kpN G S < 2 ^ G.own.length := itr_lt (kp_mono G) (kp_sub G S) hS _
theorem kp_fix {G : Gm} {S : Nat} (hS : S < 2 ^ G.own.length) : kpF G (kpN G S) = kpN G S := itr_fix (kp_mono G) (kp_sub G S) hS
theorem kp_again {G : Gm} {S : Nat} (hS : S < 2 ^ G.own.length) : kpN G (kpN G S) = kpN G S := by
  have h := kp_fix hS
  exact (itr_end (f := kpF G) (S := kpN G S) (n := G.own.length) (k := 0) (kp_mono G) (kp_sub G _) (kp_lt hS) h).symm
theorem lv_goal {G : Gm} {a b : Nat} (h : sub a b) : ∀ k, sub (lv G a k) (lv G b k)
  | 0 => sub_refl _
  | k + 1 => or_sub h (fcN_mono (lv_goal h k))
def agF (G : Gm) (goal X : Nat) : Nat := wonN G (goal &&& fcN G 0 X)
def agN (G : Gm) (goal : Nat) : Nat := itr (agF G goal) (2 ^ G.own.length - 1) G.own.length
theorem ag_mono (G : Gm) (goal : Nat) : Mono (agF G goal) := fun X Y h => lv_goal (and_sub (sub_refl _) (fcN_mono h)) _
theorem goal_and {G : Gm} {goal : Nat} (hg : goal < 2 ^ G.own.length) (X : Nat) : goal &&& fcN G 0 X < 2 ^ G.own.length := Nat.lt_of_le_of_lt Nat.and_le_left hg
theorem ag_lt {G : Gm} {goal : Nat} (hg : goal < 2 ^ G.own.length) (X : Nat) : agF G goal X < 2 ^ G.own.length := lv_lt (goal_and hg X) _
theorem all_lt (n : Nat) : 2 ^ n - 1 < 2 ^ n := by have := Nat.two_pow_pos n; omega
theorem ag_sub {G : Gm} {goal : Nat} (hg : goal < 2 ^ G.own.length) : sub (agF G goal (2 ^ G.own.length - 1)) (2 ^ G.own.length - 1) := fun j hj => by
  have := bit_in (ag_lt hg _) hj
  rw [Nat.testBit_two_pow_sub_one]
  simpa using this
theorem ag_fix {G : Gm} {goal : Nat} (hg : goal < 2 ^ G.own.length) : agF G goal (agN G goal) = agN G goal := itr_fix (ag_mono G goal) (ag_sub hg) (all_lt _)
theorem ag_lt2 {G : Gm} {goal : Nat} (hg : goal < 2 ^ G.own.length) : agN G goal < 2 ^ G.own.length := itr_lt (ag_mono G goal) (ag_sub hg) (all_lt _) _
/-- What is visited again and again is won. -/
theorem ag_won {G : Gm} {goal : Nat} (hg : goal < 2 ^ G.own.length) : sub (agN G goal) (wonN G goal) := by
  rw [← ag_fix hg]
  exact lv_goal (and_sub_left _ _) _
end Go.Proofs.Ytldepjpalhmpnaa

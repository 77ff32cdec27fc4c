/-
  Means of what players add: the walks of OnesCount (of a group), orders, the two weights. Conditions: groups of at most five players.
-/
import Derived.Test.YtfmhanpibgmgfaaPu4
namespace Go.Proofs.Ytfmhanpibgmgfaa
open Go.RowKit
set_option linter.unusedVariables false

/-- How many players a group has. -/
def popN (g : Nat) : Nat := g % 2 + g / 2 % 2 + g / 4 % 2 + g / 8 % 2 + g / 16 % 2
def facN : Nat → Nat
  | 0 => 1
  | n + 1 => facN n * (n + 1)
def wS (b a : Nat) : Int := ((facN b * facN a : Nat) : Int)
def wB (b a : Nat) : Int := 1
theorem fac_small : ∀ n : Fin 6, 1 ≤ facN n.val ∧ facN n.val ≤ 120 := by decide +kernel
theorem wS_small : ∀ b a : Fin 5, b.val + a.val ≤ 4 → 1 ≤ facN b.val * facN a.val ∧ facN b.val * facN a.val ≤ 24 := by decide +kernel
theorem wS_le {b a : Nat} (h : b + a ≤ 4) : 1 ≤ wS b a ∧ wS b a ≤ 24 := by
  have := wS_small ⟨b, by omega⟩ ⟨a, by omega⟩ h
  simp only at this
  unfold wS
  omega
theorem wB_le {b a : Nat} (h : b + a ≤ 4) : 1 ≤ wB b a ∧ wB b a ≤ 24 := by
  unfold wB
  omega
theorem pop_small : ∀ n : Fin 6, ∀ g : Fin 32, ∀ p : Fin 5, p.val < n.val → g.val < 2 ^ n.val → g.val.testBit p.val = false → popN g.val + 1 ≤ n.val := by decide +kernel
theorem pop_lt {n g p : Nat} (hn : n ≤ 5) (hp : p < n) (hg : g < 2 ^ n) (h : g.testBit p = false) : popN g + 1 ≤ n := by
  have h2 : 2 ^ n ≤ 2 ^ 5 := Nat.pow_le_pow_right (by omega) hn
  exact pop_small ⟨n, by omega⟩ ⟨g, by omega⟩ ⟨p, by omega⟩ hp hg h
set_option maxRecDepth 4000 in
set_option maxHeartbeats 4000000 in
theorem OnesCount64_any (x : Nat) (hx : x < 32) (w : World) :
    Calls Try.prog 110 #[.int .u64 (x : Int)] w fun e w' => e = .returned (.int .i64 ((popN x : Nat) : Int)) ∧ w = w' := by
  have hc : x = 0 ∨ x = 1 ∨ x = 2 ∨ x = 3 ∨ x = 4 ∨ x = 5 ∨ x = 6 ∨ x = 7 ∨ x = 8 ∨ x = 9 ∨ x = 10 ∨ x = 11 ∨ x = 12 ∨ x = 13 ∨ x = 14 ∨ x = 15 ∨ x = 16 ∨ x = 17 ∨ x = 18 ∨ x = 19 ∨ x = 20 ∨ x = 21 ∨ x = 22 ∨ x = 23 ∨ x = 24 ∨ x = 25 ∨ x = 26 ∨ x = 27 ∨ x = 28 ∨ x = 29 ∨ x = 30 ∨ x = 31 := by omega
  clear hx
  rcases hc with rfl | rfl | rfl | rfl | rfl | rfl | rfl | rfl | rfl | rfl | rfl | rfl | rfl | rfl | rfl | rfl | rfl | rfl | rfl | rfl | rfl | rfl | rfl | rfl | rfl | rfl | rfl | rfl | rfl | rfl | rfl | rfl
  all_goals (
    go_enter Try.func110, Try.ntmps110
    go_wp2_with fail
    go_ret
    exact ⟨congrArg (fun z => Ending.returned (Value.int .i64 z)) (by first | rfl | decide +kernel), rfl⟩)
set_option maxRecDepth 4000 in
theorem OnesCount_any (x : Nat) (hx : x < 32) (w : World) :
    Calls Try.prog 94 #[.int .u64 (x : Int)] w fun e w' => e = .returned (.int .i64 ((popN x : Nat) : Int)) ∧ w = w' := by
  have H := Lib.hid (OnesCount64_any x hx w)
  generalize popN x = y at *
  go_enter Try.func94, Try.ntmps94
  go_wp2_with fail
  refine H.out.mono ?_
  rintro e w' ⟨rfl, rfl⟩
  go_wp2_with fail
  go_ret
  exact ⟨rfl, rfl⟩
set_option maxRecDepth 4000 in
theorem orders_any (n : Nat) (hn : n ≤ 5) (w : World) :
    Calls Try.prog 61 #[.int .i64 (n : Int)] w fun e w' => e = .returned (.int .i64 ((facN n : Nat) : Int)) ∧ w = w' := by
  go_enter Try.func61, Try.ntmps61
  go_wp2_with fail
  go_loop [3, 6] (fun v z => ∃ k : Nat, k ≤ n ∧ v = .int .i64 ((facN k : Nat) : Int) ∧ z = .int .i64 k) (fun _ z => n - (intOf z).toNat)
  case atStart => exact ⟨0, by omega, rfl, rfl⟩
  case round =>
    obtain ⟨k, hk, rfl, rfl⟩ := hrel
    by_cases hlt : k < n
    · have HF := Lib.hid (show ((facN (k + 1) : Nat) : Int) = ((facN k : Nat) : Int) * ((k : Int) + 1) by show ((facN k * (k + 1) : Nat) : Int) = _; rw [Int.natCast_mul]; rfl)
      have h1 := fac_small ⟨k + 1, by omega⟩
      simp only at h1
      have hb : 0 ≤ ((facN k : Nat) : Int) * ((k : Int) + 1) ∧ ((facN k : Nat) : Int) * ((k : Int) + 1) ≤ 120 := by
        rw [← HF.out]
        omega
      clear h1
      have hx0 : (0 : Int) ≤ ((facN k : Nat) : Int) := Int.natCast_nonneg _
      have b0 : (k : Int) < (n : Int) := by omega
      have HQ := Lib.hid (show wrap64 (((facN k : Nat) : Int) * ((k : Int) + 1)) = ((facN k : Nat) : Int) * ((k : Int) + 1) by unfold wrap64; omega)
      have hq := HQ.out
      clear hlt hb
      go_wp2_with fail
      go_round
      case rel => exact ⟨k + 1, by omega, by rw [HF.out] <;> first | rfl | (rw [HQ.out] <;> rfl), by go_num⟩
      case measure => simp [intOf]; omega
    · have hkn : k = n := by omega
      subst hkn
      go_wp2_with fail
      go_ret
      exact ⟨rfl, rfl⟩
end Go.Proofs.Ytfmhanpibgmgfaa

/-
  The walks of setOf, Turn, Mirror of package wind and of the reference. No condition.
-/
import Derived.Test.YtfokmgogbjifbaaWb2
import Derived.Deep.RegionWith
namespace Go.Proofs.Ytfokmgogbjifbaa
open Go.RowKit
set_option linter.unusedVariables false

theorem wrap_u32 {n : Int} (h : 0 ≤ n ∧ n < 4294967296) : IntKind.u32.wrap n = n := by
  show n % 4294967296 = n
  omega
theorem u32_ne {n : Int} (h : setB n = false) : (n % 4294967296 == n) = false := by
  have h2 : ¬ (0 ≤ n ∧ n < 4294967296) := by rw [← setB_iff, h]; simp
  simp
  omega
theorem setOf_yes (x : Nat) (w : World) (hx : x < 4294967296) : Calls Try.prog 28 #[.int .i64 x] w fun e w' => e = .returned (.tuple #[.int .u32 x, .bool true]) ∧ w = w' := by
  have h := wrap_u32 (n := (x : Int)) ⟨by omega, by omega⟩
  go_enter Try.func28, Try.ntmps28
  go_wp2
  go_ret2
  exact ⟨rfl, rfl⟩
def NoSet (w : World) (e : Ending) (w' : World) : Prop := (∃ y, e = .returned (.tuple #[.int .u32 y, .bool false])) ∧ w = w'
theorem setOf_no (n : Int) (w : World) (h : setB n = false) : Calls Try.prog 28 #[.int .i64 n] w (NoSet w) := by
  have h := u32_ne h
  go_enter Try.func28, Try.ntmps28
  go_wp2
  go_ret2
  exact ⟨⟨n % 4294967296, by simp⟩, rfl⟩
theorem swap_print (M P : Int) (m k p x : Nat) (hM : M = (m : Int)) (hP : P = (p : Int)) (hp : p = 2 ^ k) (hm : m < 4294967296) (hx : x < 4294967296) :
    bits .or .u32 (bits .and .u32 ((x : Int) / P) M) (bits .and .u32 (x : Int) M * P % 4294967296) = ((swapN m k x : Nat) : Int) := by
  subst hM hP
  have e1 : (x : Int) / (p : Nat) = ((x / p : Nat) : Int) := by simp
  have h1 : x / p < 4294967296 := Nat.lt_of_le_of_lt (Nat.div_le_self _ _) hx
  have h2 : (x &&& m) * p % 4294967296 < 4294967296 := Nat.mod_lt _ (by decide)
  rw [e1, u32_and_nat _ _ h1 hm, u32_and_nat _ _ hx hm]
  have e2 : ((x &&& m : Nat) : Int) * (p : Nat) % 4294967296 = (((x &&& m) * p % 4294967296 : Nat) : Int) := by simp
  rw [e2, u32_or_nat _ _ (Nat.lt_of_le_of_lt Nat.and_le_left h1) h2, hp]
  rfl
theorem half_print (x : Nat) (hx : x < 4294967296) : bits .or .u32 ((x : Int) / 65536) ((x : Int) * 65536 % 4294967296) = ((halfN x : Nat) : Int) := by
  have e1 : (x : Int) / 65536 = ((x / 65536 : Nat) : Int) := by simp
  have h1 : x / 65536 < 4294967296 := Nat.lt_of_le_of_lt (Nat.div_le_self _ _) hx
  have h2 : x * 65536 % 4294967296 < 4294967296 := Nat.mod_lt _ (by decide)
  have e2 : (x : Int) * 65536 % 4294967296 = ((x * 65536 % 4294967296 : Nat) : Int) := by simp
  rw [e1, e2, u32_or_nat _ _ h1 h2]
  rfl
def turV (n k : Int) : Int := if setB n then (rotN n.toNat (byN k) : Nat) else 0
def mirV (n : Int) : Int := if setB n then (mirN n.toNat : Nat) else 0
theorem Turn_any (n k : Int) (w : World) : Calls Try.prog 12 #[.int .i64 n, .int .i64 k] w fun e w' => e = .returned (.tuple #[.int .i64 (turV n k), .int .i64 (setE n)]) ∧ w = w' := by
  unfold turV setE
  by_cases h : setB n = true
  · rw [if_pos h, if_pos h]
    obtain ⟨x, rfl, hx⟩ := set_nat h
    rw [Int.toNat_natCast]
    have H1 := Lib.hid (fun w => turn_any x k w hx)
    have hl := rot_lt (s := byN k) hx
    generalize rotN x (byN k) = y at *
    clear h
    have hy : IntKind.i64.wrap (y : Int) = (y : Int) := by rw [IntKind.wrap_i64]; omega
    go_enter Try.func12, Try.ntmps12
    go_wp2_with fail
    refine (setOf_yes x w hx).mono ?_
    rintro e w' ⟨rfl, rfl⟩
    go_wp2_with fail
    refine (H1.out w).mono ?_
    rintro e w' ⟨rfl, rfl⟩
    go_wp2_with fail
    go_ret2
    exact ⟨rfl, rfl⟩
  · rw [if_neg h, if_neg h]
    rw [Bool.not_eq_true] at h
    have H := Lib.hid (fun w => setOf_no n w h)
    clear h
    go_enter Try.func12, Try.ntmps12
    go_wp2_with fail
    refine (H.out w).mono ?_
    rintro e w' ⟨⟨y, rfl⟩, rfl⟩
    go_wp2_with fail
    go_ret2
    exact ⟨rfl, rfl⟩
/-! ### The document's side -/
end Go.Proofs.Ytfokmgogbjifbaa

/-
  The walks of isPoint, isWidth, ValidateArc, Across of package wind and of the reference. No condition.
-/
import Derived.Test.YtfokmgogbjifbaaGen
import Derived.Test.YtfokmgogbjifbaaWb1
import Derived.Test.YtfokmgogbjifbaaProg
import Derived.WalkKit
import Derived.WalkLawsBesides
import Derived.WalkSpells
import Derived.Handy
import Derived.BigQuiet
import Derived.IntWalk
import Derived.Lib.MinMax
import Derived.Deep.Light
namespace Go.Proofs.Ytfokmgogbjifbaa
open Go.RowKit
set_option linter.unusedVariables false

def pt (n : Int) : Bool := decide (0 ≤ n) && decide (n < 32)
def wd (n : Int) : Bool := decide (1 ≤ n) && decide (n ≤ 32)
theorem pt_iff {n : Int} : pt n = true ↔ 0 ≤ n ∧ n < 32 := by simp [pt]
theorem wd_iff {n : Int} : wd n = true ↔ 1 ≤ n ∧ n ≤ 32 := by simp [wd]
theorem isPoint_any (n : Int) (w : World) : Calls Try.prog 14 #[.int .i64 n] w fun e w' => e = .returned (.bool (pt n)) ∧ w = w' := by
  unfold pt
  cases h1 : decide (0 ≤ n) <;> cases h2 : decide (n < 32)
  all_goals
    go_enter Try.func14, Try.ntmps14
    go_wp2
    go_ret
    exact ⟨rfl, rfl⟩
theorem isWidth_any (n : Int) (w : World) : Calls Try.prog 35 #[.int .i64 n] w fun e w' => e = .returned (.bool (wd n)) ∧ w = w' := by
  unfold wd
  cases h1 : decide (1 ≤ n) <;> cases h2 : decide (n ≤ 32)
  all_goals
    go_enter Try.func35, Try.ntmps35
    go_wp2
    go_ret
    exact ⟨rfl, rfl⟩
/-- The error of an arc. -/
def arcE (a : Pt) : Int := if pt a.x && wd a.y then 0 else 1
theorem arcE_zero {a : Pt} (h : arcE a = 0) : (0 ≤ a.x ∧ a.x < 32) ∧ (1 ≤ a.y ∧ a.y ≤ 32) := by
  unfold arcE at h
  split at h
  · rename_i h1
    rw [Bool.and_eq_true, pt_iff, wd_iff] at h1
    exact h1
  · cases h
theorem ValidateArc_any (a : Pt) (w : World) : Calls Try.prog 27 #[a.v] w fun e w' => e = .returned (.int .i64 (arcE a)) ∧ Below w.heap.size w w' := by
  obtain ⟨x, y⟩ := a
  unfold Pt.v arcE
  simp only
  have HX := Lib.hid (fun w => isPoint_any x w)
  have HY := Lib.hid (fun w => isWidth_any y w)
  generalize pt x = cx at *
  generalize wd y = cy at *
  have B := Lib.hid ((Below.refl w.heap.size w).alloc (Nat.le_refl _) (.cells #[.int .i64 x, .int .i64 y] 37))
  cases cx
  · go_enter Try.func27, Try.ntmps27
    go_wp2_with fail
    refine (HX.out _).mono ?_
    rintro e w' ⟨rfl, rfl⟩
    go_wp2_with fail
    go_ret
    exact ⟨rfl, B.out⟩
  · cases cy
    all_goals
      go_enter Try.func27, Try.ntmps27
      go_wp2_with fail
      refine (HX.out _).mono ?_
      rintro e w' ⟨rfl, rfl⟩
      go_wp2_with fail
      refine (HY.out _).mono ?_
      rintro e w' ⟨rfl, rfl⟩
      go_wp2_with fail
      go_ret
      exact ⟨rfl, B.out⟩
/-! ### How far the wind veers -/
def acr (f t : Int) : Int := if 16 < (t - f) % 32 then (t - f) % 32 - 32 else (t - f) % 32
theorem acr_le (f t : Int) : -16 ≤ acr f t ∧ acr f t ≤ 16 := by unfold acr; omega
theorem acr_mod (f t : Int) : acr f t % 32 = (t - f) % 32 := by unfold acr; omega
theorem and31 (n : Int) : bits .and .i64 n 31 = n % 32 := by
  show IntKind.i64.wrap ((BitVec.ofInt 64 n &&& BitVec.ofInt 64 31).toNat : Int) = _
  rw [BitVec.toNat_and, BitVec.toNat_ofInt, BitVec.toNat_ofInt]
  have e : ((31 : Int) % ((2 ^ 64 : Nat) : Int)).toNat = 2 ^ 5 - 1 := by decide
  rw [e, Nat.and_two_pow_sub_one_eq_mod, IntKind.wrap_i64]
  omega
theorem across_any (f t : Int) (w : World) (hf : pt f = true) (ht : pt t = true) : Calls Try.prog 15 #[.int .i64 f, .int .i64 t] w fun e w' => e = .returned (.int .i64 (acr f t)) ∧ w = w' := by
  rw [pt_iff] at hf ht
  obtain ⟨h0, h1⟩ := hf
  obtain ⟨h2, h3⟩ := ht
  by_cases ha : 16 < t - f
  · have E := Lib.hid (show acr f t = t - f - 32 by unfold acr; omega)
    go_enter Try.func15, Try.ntmps15
    go_wp2
    go_ret
    exact ⟨by rw [E.out]; rfl, rfl⟩
  · by_cases hb : t - f ≤ -16
    · have E := Lib.hid (show acr f t = t - f + 32 by unfold acr; omega)
      go_enter Try.func15, Try.ntmps15
      go_wp2
      go_ret
      exact ⟨by rw [E.out]; rfl, rfl⟩
    · have E := Lib.hid (show acr f t = t - f by unfold acr; omega)
      go_enter Try.func15, Try.ntmps15
      go_wp2
      go_ret
      exact ⟨by rw [E.out]; rfl, rfl⟩
def acrE (f t : Int) : Int := if pt f && pt t then 0 else 1
def acrV (f t : Int) : Int := if pt f && pt t then acr f t else 0
theorem Across_any (f t : Int) (w : World) : Calls Try.prog 4 #[.int .i64 f, .int .i64 t] w fun e w' => e = .returned (.tuple #[.int .i64 (acrV f t), .int .i64 (acrE f t)]) ∧ w = w' := by
  have HX := Lib.hid (fun w => isPoint_any f w)
  have HY := Lib.hid (fun w => isPoint_any t w)
  have HA := Lib.hid (fun w h g => across_any f t w h g)
  unfold acrV acrE
  generalize pt f = cx at *
  generalize pt t = cy at *
  cases cx
  · go_enter Try.func4, Try.ntmps4
    go_wp2_with fail
    refine (HX.out _).mono ?_
    rintro e w' ⟨rfl, rfl⟩
    go_wp2_with fail
    go_ret2
    exact ⟨rfl, rfl⟩
  · cases cy
    · go_enter Try.func4, Try.ntmps4
      go_wp2_with fail
      refine (HX.out _).mono ?_
      rintro e w' ⟨rfl, rfl⟩
      go_wp2_with fail
      refine (HY.out _).mono ?_
      rintro e w' ⟨rfl, rfl⟩
      go_wp2_with fail
      go_ret2
      exact ⟨rfl, rfl⟩
    · go_enter Try.func4, Try.ntmps4
      go_wp2_with fail
      refine (HX.out _).mono ?_
      rintro e w' ⟨rfl, rfl⟩
      go_wp2_with fail
      refine (HY.out _).mono ?_
      rintro e w' ⟨rfl, rfl⟩
      go_wp2_with fail
      refine (HA.out _ trivial trivial).mono ?_
      rintro e w' ⟨rfl, rfl⟩
      go_wp2_with fail
      go_ret2
      exact ⟨rfl, rfl⟩
end Go.Proofs.Ytfokmgogbjifbaa

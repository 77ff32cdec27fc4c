/-
  Binomial and Ways of both sides: the walks. Every argument.
-/
import Derived.Test.YtegehfcnclpdeabDoorCc2
namespace Go.Proofs.YtegehfcnclpdeabDoor
open Go.RowKit
set_option linter.unusedVariables false

theorem allB2 {x y : Int} (h : allB [x, y] = true) : (0 ≤ x ∧ x ≤ 60) ∧ (0 ≤ y ∧ y ≤ 60) := by
  simp only [allB, List.all_cons, List.all_nil, Bool.and_true, Bool.and_eq_true, isB_iff] at h
  exact h
theorem allB3 {x y z : Int} (h : allB [x, y, z] = true) : (0 ≤ x ∧ x ≤ 60) ∧ (0 ≤ y ∧ y ≤ 60) ∧ (0 ≤ z ∧ z ≤ 60) := by
  simp only [allB, List.all_cons, List.all_nil, Bool.and_true, Bool.and_eq_true, isB_iff] at h
  exact h
theorem allB4 {x y z u : Int} (h : allB [x, y, z, u] = true) : (0 ≤ x ∧ x ≤ 60) ∧ (0 ≤ y ∧ y ≤ 60) ∧ (0 ≤ z ∧ z ≤ 60) ∧ (0 ≤ u ∧ u ≤ 60) := by
  simp only [allB, List.all_cons, List.all_nil, Bool.and_true, Bool.and_eq_true, isB_iff] at h
  exact h
theorem allB2_iff {x y : Int} : allB [x, y] = true ↔ (0 ≤ x ∧ x ≤ 60) ∧ (0 ≤ y ∧ y ≤ 60) := by
  simp only [allB, List.all_cons, List.all_nil, Bool.and_true, Bool.and_eq_true, isB_iff]
theorem allB3_iff {x y z : Int} : allB [x, y, z] = true ↔ (0 ≤ x ∧ x ≤ 60) ∧ (0 ≤ y ∧ y ≤ 60) ∧ (0 ≤ z ∧ z ≤ 60) := by
  simp only [allB, List.all_cons, List.all_nil, Bool.and_true, Bool.and_eq_true, isB_iff]
theorem allB4_iff {x y z u : Int} : allB [x, y, z, u] = true ↔ (0 ≤ x ∧ x ≤ 60) ∧ (0 ≤ y ∧ y ≤ 60) ∧ (0 ≤ z ∧ z ≤ 60) ∧ (0 ≤ u ∧ u ≤ 60) := by
  simp only [allB, List.all_cons, List.all_nil, Bool.and_true, Bool.and_eq_true, isB_iff]
def binV (n k : Int) : Nat := if allB [n, k] = true then bI n k else 0
def binE (n k : Int) : Int := if allB [n, k] = true then 0 else 1
def wysV (b m c a : Int) : Nat := if allB [b, m, c, a] = true then wN b.toNat m.toNat c.toNat a.toNat else 0
def wysE (b m c a : Int) : Int := if allB [b, m, c, a] = true then 0 else 1
set_option maxRecDepth 4000 in
theorem Binomial_any (n k : Int) (w : World) : Calls Tryd.prog 4 #[.int .i64 n, .int .i64 k] w fun e w' => e = .returned (.tuple #[.int .i64 (binV n k : Nat), .int .i64 (binE n k)]) ∧ Below w.heap.size w w' := by
  have HA := Lib.hid (nums2 n k w)
  cases hv : allB [n, k]
  · rw [hv] at HA
    have H1 := Lib.hid (show binV n k = 0 by unfold binV; rw [hv]; rfl)
    have H2 := Lib.hid (show binE n k = 1 by unfold binE; rw [hv]; rfl)
    clear hv
    go_enter Tryd.func4, Tryd.ntmps4
    go_wp2_with fail
    refine (HA.out).mono ?_
    rintro e w1 ⟨rfl, hb⟩
    have B1 := Lib.hid hb
    clear hb
    go_wp2_with fail
    go_ret2
    exact ⟨by rw [H1.out, H2.out]; rfl, B1.out⟩
  · rw [hv] at HA
    have H1 := Lib.hid (show binV n k = bI n k by unfold binV; rw [hv]; rfl)
    have H2 := Lib.hid (show binE n k = 0 by unfold binE; rw [hv]; rfl)
    have hb := allB2 hv
    have HX := Lib.hid (fun w => binomial_any n k (by omega) (by omega) w)
    clear hv hb
    go_enter Tryd.func4, Tryd.ntmps4
    go_wp2_with fail
    refine (HA.out).mono ?_
    rintro e w1 ⟨rfl, hb⟩
    have B1 := Lib.hid hb
    clear hb
    go_wp2_with fail
    refine (HX.out _).mono ?_
    rintro e w' ⟨rfl, rfl⟩
    go_wp2_with fail
    go_ret2
    exact ⟨by rw [H1.out, H2.out]; rfl, B1.out⟩
end Go.Proofs.YtegehfcnclpdeabDoor

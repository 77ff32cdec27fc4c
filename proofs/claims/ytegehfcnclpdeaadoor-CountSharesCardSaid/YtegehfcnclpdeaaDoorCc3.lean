/-
  Binomial and Ways of both sides: the walks. Every argument.
-/
import Derived.Test.YtegehfcnclpdeaaDoorCc2
namespace Go.Proofs.YtegehfcnclpdeaaDoor
open Go.RowKit
set_option linter.unusedVariables false

theorem allB2 {x y : Int} (h : allB [x, y] = true) : (0 ≤ x ∧ x ≤ 60) ∧ (0 ≤ y ∧ y ≤ 60) := by
  simp only [allB, List.all_cons, List.all_nil, Bool.and_true, Bool.and_eq_true, isB_iff] at h
  exact h
theorem allB3 {x y z : Int} (h : allB [x, y, z] = true) : (0 ≤ x ∧ x ≤ 60) ∧ (0 ≤ y ∧ y ≤ 60) ∧ (0 ≤ z ∧ z ≤ 60) := by
  simp only [allB, List.all_cons, List.all_nil, Bool.and_true, Bool.and_eq_true, isB_iff] at h
  exact h
theorem allB4 {x y z u : Int} (h : allB [x, y, z, u] = true) : (0 ≤ x ∧ x ≤ 60) ∧ (0 ≤ y ∧ y ≤ 60) ∧ (0 ≤ z ∧ z ≤ 60) ∧ (0 ≤ u ∧ u ≤ 60) := by
  simp only [allB, List.all_cons, List.all_nil, Bool.and_true, Bool.and_eq_true, isB_iff] at h
  exact h
theorem allB2_iff {x y : Int} : allB [x, y] = true ↔ (0 ≤ x ∧ x ≤ 60) ∧ (0 ≤ y ∧ y ≤ 60) := by
  simp only [allB, List.all_cons, List.all_nil, Bool.and_true, Bool.and_eq_true, isB_iff]
theorem allB3_iff {x y z : Int} : allB [x, y, z] = true ↔ (0 ≤ x ∧ x ≤ 60) ∧ (0 ≤ y ∧ y ≤ 60) ∧ (0 ≤ z ∧ z ≤ 60) := by
  simp only [allB, List.all_cons, List.all_nil, Bool.and_true, Bool.and_eq_true, isB_iff]
theorem allB4_iff {x y z u : Int} : allB [x, y, z, u] = true ↔ (0 ≤ x ∧ x ≤ 60) ∧ (0 ≤ y ∧ y ≤ 60) ∧ (0 ≤ z ∧ z ≤ 60) ∧ (0 ≤ u ∧ u ≤ 60) := by
  simp only [allB, List.all_cons, List.all_nil, Bool.and_true, Bool.and_eq_true, isB_iff]
def binV (n k : Int) : Nat := if allB [n, k] = true then bI n k else 0
def binE (n k : Int) : Int := if allB [n, k] = true then 0 else 1
def wysV (b m c a : Int) : Nat := if allB [b, m, c, a] = true then wN b.toNat m.toNat c.toNat a.toNat else 0
def wysE (b m c a : Int) : Int := if allB [b, m, c, a] = true then 0 else 1
set_option maxRecDepth 4000 in
theorem Ways_any (b m c a : Int) (w : World) : Calls Tryd.prog 8 #[.int .i64 b, .int .i64 m, .int .i64 c, .int .i64 a] w fun e w' => e = .returned (.tuple #[.int .i64 (wysV b m c a : Nat), .int .i64 (wysE b m c a)]) ∧ Below w.heap.size w w' := by
  have HA := Lib.hid (nums4 b m c a w)
  cases hv : allB [b, m, c, a]
  · rw [hv] at HA
    have H1 := Lib.hid (show wysV b m c a = 0 by unfold wysV; rw [hv]; rfl)
    have H2 := Lib.hid (show wysE b m c a = 1 by unfold wysE; rw [hv]; rfl)
    clear hv
    go_enter Tryd.func8, Tryd.ntmps8
    go_wp2_with fail
    refine (HA.out).mono ?_
    rintro e w1 ⟨rfl, hb⟩
    have B1 := Lib.hid hb
    clear hb
    go_wp2_with fail
    go_ret2
    exact ⟨by rw [H1.out, H2.out]; rfl, B1.out⟩
  · rw [hv] at HA
    have H1 := Lib.hid (show wysV b m c a = wN b.toNat m.toNat c.toNat a.toNat by unfold wysV; rw [hv]; rfl)
    have H2 := Lib.hid (show wysE b m c a = 0 by unfold wysE; rw [hv]; rfl)
    have hb := allB4 hv
    have HX := Lib.hid (fun w => ways_any b.toNat m.toNat c.toNat a.toNat (by omega) (by omega) (by omega) (by omega) w)
    rw [show ((b.toNat : Nat) : Int) = b by omega, show ((m.toNat : Nat) : Int) = m by omega, show ((c.toNat : Nat) : Int) = c by omega, show ((a.toNat : Nat) : Int) = a by omega] at HX
    clear hv hb
    generalize wN b.toNat m.toNat c.toNat a.toNat = x at *
    go_enter Tryd.func8, Tryd.ntmps8
    go_wp2_with fail
    refine (HA.out).mono ?_
    rintro e w1 ⟨rfl, hb⟩
    have B1 := Lib.hid hb
    clear hb
    go_wp2_with fail
    refine (HX.out w1).mono ?_
    rintro e w2 ⟨rfl, hb⟩
    have B2 := Lib.hid (B1.out.trans (hb.mono B1.out.size))
    clear hb
    go_wp2_with fail
    go_ret2
    exact ⟨by rw [H1.out, H2.out]; rfl, B2.out⟩
end Go.Proofs.YtegehfcnclpdeaaDoor

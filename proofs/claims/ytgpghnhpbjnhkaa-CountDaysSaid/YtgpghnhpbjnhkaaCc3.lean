/-
  Binomial and Ways of both sides: the walks. Every argument.
-/
import Derived.Test.YtgpghnhpbjnhkaaCc2
namespace Go.Proofs.Ytgpghnhpbjnhkaa
open Go.RowKit
set_option linter.unusedVariables false

theorem allB2 {x y : Int} (h : allB [x, y] = true) : (0 ≤ x ∧ x ≤ 60) ∧ (0 ≤ y ∧ y ≤ 60) := by
  simp only [allB, List.all_cons, List.all_nil, Bool.and_true, Bool.and_eq_true, isB_iff] at h
  exact h
theorem allB3 {x y z : Int} (h : allB [x, y, z] = true) : (0 ≤ x ∧ x ≤ 60) ∧ (0 ≤ y ∧ y ≤ 60) ∧ (0 ≤ z ∧ z ≤ 60) := by
  simp only [allB, List.all_cons, List.all_nil, Bool.and_true, Bool.and_eq_true, isB_iff] at h
  exact h
theorem allB4 {x y z u : Int} (h : allB [x, y, z, u] = true) : (0 ≤ x ∧ x ≤ 60) ∧ (0 ≤ y ∧ y ≤ 60) ∧ (0 ≤ z ∧ z ≤ 60) ∧ (0 ≤ u ∧ u ≤ 60) := by
  simp only [allB, List.all_cons, List.all_nil, Bool.and_true, Bool.and_eq_true, isB_iff] at h
  exact h
theorem allB2_iff {x y : Int} : allB [x, y] = true ↔ (0 ≤ x ∧ x ≤ 60) ∧ (0 ≤ y ∧ y ≤ 60) := by
  simp only [allB, List.all_cons, List.all_nil, Bool.and_true, Bool.and_eq_true, isB_iff]
theorem allB3_iff {x y z : Int} : allB [x, y, z] = true ↔ (0 ≤ x ∧ x ≤ 60) ∧ (0 ≤ y ∧ y ≤ 60) ∧ (0 ≤ z ∧ z ≤ 60) := by
  simp only [allB, List.all_cons, List.all_nil, Bool.and_true, Bool.and_eq_true, isB_iff]
theorem allB4_iff {x y z u : Int} : allB [x, y, z, u] = true ↔ (0 ≤ x ∧ x ≤ 60) ∧ (0 ≤ y ∧ y ≤ 60) ∧ (0 ≤ z ∧ z ≤ 60) ∧ (0 ≤ u ∧ u ≤ 60) := by
  simp only [allB, List.all_cons, List.all_nil, Bool.and_true, Bool.and_eq_true, isB_iff]
def binV (n k : Int) : Nat := if allB [n, k] = true then bI n k else 0
def binE (n k : Int) : Int := if allB [n, k] = true then 0 else 1
def wysV (b m c a : Int) : Nat := if allB [b, m, c, a] = true then wN b.toNat m.toNat c.toNat a.toNat else 0
def wysE (b m c a : Int) : Int := if allB [b, m, c, a] = true then 0 else 1
set_option maxRecDepth 4000 in
theorem Binomial_any (n k : Int) (w : World) : Calls Try.prog 13 #[.int .i64 n, .int .i64 k] w fun e w' => e = .returned (.tuple #[.int .i64 (binV n k : Nat), .int .i64 (binE n k)]) ∧ Below w.heap.size w w' := by
  have HA := Lib.hid (nums2 n k w)
  cases hv : allB [n, k]
  · rw [hv] at HA
    have H1 := Lib.hid (show binV n k = 0 by unfold binV; rw [hv]; rfl)
    have H2 := Lib.hid (show binE n k = 1 by unfold binE; rw [hv]; rfl)
    clear hv
    go_enter Try.func13, Try.ntmps13
    go_wp2_with fail
    refine (HA.out).mono ?_
    rintro e w1 ⟨rfl, hb⟩
    have B1 := Lib.hid hb
    clear hb
    go_wp2_with fail
    go_ret2
    exact ⟨by rw [H1.out, H2.out]; rfl, B1.out⟩
  · rw [hv] at HA
    have H1 := Lib.hid (show binV n k = bI n k by unfold binV; rw [hv]; rfl)
    have H2 := Lib.hid (show binE n k = 0 by unfold binE; rw [hv]; rfl)
    have hb := allB2 hv
    have HX := Lib.hid (fun w => binomial_any n k (by omega) (by omega) w)
    clear hv hb
    go_enter Try.func13, Try.ntmps13
    go_wp2_with fail
    refine (HA.out).mono ?_
    rintro e w1 ⟨rfl, hb⟩
    have B1 := Lib.hid hb
    clear hb
    go_wp2_with fail
    refine (HX.out _).mono ?_
    rintro e w' ⟨rfl, rfl⟩
    go_wp2_with fail
    go_ret2
    exact ⟨by rw [H1.out, H2.out]; rfl, B1.out⟩
set_option maxRecDepth 4000 in
theorem rBinomial_any (n k : Int) (w : World) : Calls Try.prog 14 #[.int .i64 n, .int .i64 k] w fun e w' => e = .returned (.tuple #[.int .i64 (binV n k : Nat), .int .i64 (binE n k)]) ∧ Below w.heap.size w w' := by
  have HA := Lib.hid (birds2 n k w)
  cases hv : allB [n, k]
  · rw [hv] at HA
    have H1 := Lib.hid (show binV n k = 0 by unfold binV; rw [hv]; rfl)
    have H2 := Lib.hid (show binE n k = 1 by unfold binE; rw [hv]; rfl)
    clear hv
    go_enter Try.func14, Try.ntmps14
    go_wp2_with fail
    refine (HA.out).mono ?_
    rintro e w1 ⟨rfl, hb⟩
    have B1 := Lib.hid hb
    clear hb
    go_wp2_with fail
    go_ret2
    exact ⟨by rw [H1.out, H2.out]; rfl, B1.out⟩
  · rw [hv] at HA
    have H1 := Lib.hid (show binV n k = bI n k by unfold binV; rw [hv]; rfl)
    have H2 := Lib.hid (show binE n k = 0 by unfold binE; rw [hv]; rfl)
    have hb := allB2 hv
    have HX := Lib.hid (fun w => rbinomial_any n k (by omega) (by omega) w)
    clear hv hb
    go_enter Try.func14, Try.ntmps14
    go_wp2_with fail
    refine (HA.out).mono ?_
    rintro e w1 ⟨rfl, hb⟩
    have B1 := Lib.hid hb
    clear hb
    go_wp2_with fail
    refine (HX.out _).mono ?_
    rintro e w' ⟨rfl, rfl⟩
    go_wp2_with fail
    go_ret2
    exact ⟨by rw [H1.out, H2.out]; rfl, B1.out⟩
set_option maxRecDepth 4000 in
theorem Ways_any (b m c a : Int) (w : World) : Calls Try.prog 16 #[.int .i64 b, .int .i64 m, .int .i64 c, .int .i64 a] w fun e w' => e = .returned (.tuple #[.int .i64 (wysV b m c a : Nat), .int .i64 (wysE b m c a)]) ∧ Below w.heap.size w w' := by
  have HA := Lib.hid (nums4 b m c a w)
  cases hv : allB [b, m, c, a]
  · rw [hv] at HA
    have H1 := Lib.hid (show wysV b m c a = 0 by unfold wysV; rw [hv]; rfl)
    have H2 := Lib.hid (show wysE b m c a = 1 by unfold wysE; rw [hv]; rfl)
    clear hv
    go_enter Try.func16, Try.ntmps16
    go_wp2_with fail
    refine (HA.out).mono ?_
    rintro e w1 ⟨rfl, hb⟩
    have B1 := Lib.hid hb
    clear hb
    go_wp2_with fail
    go_ret2
    exact ⟨by rw [H1.out, H2.out]; rfl, B1.out⟩
  · rw [hv] at HA
    have H1 := Lib.hid (show wysV b m c a = wN b.toNat m.toNat c.toNat a.toNat by unfold wysV; rw [hv]; rfl)
    have H2 := Lib.hid (show wysE b m c a = 0 by unfold wysE; rw [hv]; rfl)
    have hb := allB4 hv
    have HX := Lib.hid (fun w => ways_any b.toNat m.toNat c.toNat a.toNat (by omega) (by omega) (by omega) (by omega) w)
    rw [show ((b.toNat : Nat) : Int) = b by omega, show ((m.toNat : Nat) : Int) = m by omega, show ((c.toNat : Nat) : Int) = c by omega, show ((a.toNat : Nat) : Int) = a by omega] at HX
    clear hv hb
    generalize wN b.toNat m.toNat c.toNat a.toNat = x at *
    go_enter Try.func16, Try.ntmps16
    go_wp2_with fail
    refine (HA.out).mono ?_
    rintro e w1 ⟨rfl, hb⟩
    have B1 := Lib.hid hb
    clear hb
    go_wp2_with fail
    refine (HX.out w1).mono ?_
    rintro e w2 ⟨rfl, hb⟩
    have B2 := Lib.hid (B1.out.trans (hb.mono B1.out.size))
    clear hb
    go_wp2_with fail
    go_ret2
    exact ⟨by rw [H1.out, H2.out]; rfl, B2.out⟩
set_option maxRecDepth 4000 in
theorem rWays_any (b m c a : Int) (w : World) : Calls Try.prog 17 #[.int .i64 b, .int .i64 m, .int .i64 c, .int .i64 a] w fun e w' => e = .returned (.tuple #[.int .i64 (wysV b m c a : Nat), .int .i64 (wysE b m c a)]) ∧ Below w.heap.size w w' := by
  have HA := Lib.hid (birds4 b m c a w)
  cases hv : allB [b, m, c, a]
  · rw [hv] at HA
    have H1 := Lib.hid (show wysV b m c a = 0 by unfold wysV; rw [hv]; rfl)
    have H2 := Lib.hid (show wysE b m c a = 1 by unfold wysE; rw [hv]; rfl)
    clear hv
    go_enter Try.func17, Try.ntmps17
    go_wp2_with fail
    refine (HA.out).mono ?_
    rintro e w1 ⟨rfl, hb⟩
    have B1 := Lib.hid hb
    clear hb
    go_wp2_with fail
    go_ret2
    exact ⟨by rw [H1.out, H2.out]; rfl, B1.out⟩
  · rw [hv] at HA
    have H1 := Lib.hid (show wysV b m c a = wN b.toNat m.toNat c.toNat a.toNat by unfold wysV; rw [hv]; rfl)
    have H2 := Lib.hid (show wysE b m c a = 0 by unfold wysE; rw [hv]; rfl)
    have hb := allB4 hv
    have HX := Lib.hid (fun w => rways_any b.toNat m.toNat c.toNat a.toNat (by omega) (by omega) (by omega) (by omega) w)
    rw [show ((b.toNat : Nat) : Int) = b by omega, show ((m.toNat : Nat) : Int) = m by omega, show ((c.toNat : Nat) : Int) = c by omega, show ((a.toNat : Nat) : Int) = a by omega] at HX
    clear hv hb
    generalize wN b.toNat m.toNat c.toNat a.toNat = x at *
    go_enter Try.func17, Try.ntmps17
    go_wp2_with fail
    refine (HA.out).mono ?_
    rintro e w1 ⟨rfl, hb⟩
    have B1 := Lib.hid hb
    clear hb
    go_wp2_with fail
    refine (HX.out w1).mono ?_
    rintro e w' ⟨rfl, rfl⟩
    go_wp2_with fail
    go_ret2
    exact ⟨by rw [H1.out, H2.out]; rfl, B1.out⟩
end Go.Proofs.Ytgpghnhpbjnhkaa

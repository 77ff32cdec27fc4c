/-
  The walk of the law ScreenSees. No condition.
-/
import Derived.Test.YtcefcpplkcebjaaSc11
namespace Go.Proofs.Ytcefcpplkcebjaa
open Go.RowKit
set_option linter.unusedVariables false

theorem seesB_rev (l : List Sg) (a b : Pt) : seesB l b a = seesB l a b := by
  unfold seesB
  congr 1
  funext s
  unfold Sg.cut
  rw [touch_rev]
theorem sightE_rev (l : List Sg) (a b : Pt) : sightE l b a = sightE l a b := by
  unfold sightE
  rw [Bool.and_comm]
theorem seesV_rev (l : List Sg) (a b : Pt) : seesV l b a = seesV l a b := by unfold seesV; rw [seesB_rev, sightE_rev]
/-- A line's box. -/
theorem one_box (w : World) (v0 v1 v2 v3 : Value) (t : TypeId) : ∃ W, w.alloc (.cells #[v0, v1, v2, v3] t) = W ∧ W.cell? ⟨w.heap.size, 0, none⟩ = some v0 ∧ W.cell? ⟨w.heap.size, 1, none⟩ = some v1 ∧ W.cell? ⟨w.heap.size, 2, none⟩ = some v2 ∧ W.cell? ⟨w.heap.size, 3, none⟩ = some v3 ∧ w.heap.size < W.heap.size ∧ Below w.heap.size w W := by
  have h := heap_alloc_new w (.cells #[v0, v1, v2, v3] t)
  refine ⟨_, rfl, ?_, ?_, ?_, ?_, by simp, (Below.refl _ _).alloc (Nat.le_refl _) _⟩ <;> rw [cell_of_row _ _ _ _ _ _ h] <;> rfl
theorem box_keep {W w1 : World} {n : Nat} {v0 v1 v2 v3 : Value} (h : W.cell? ⟨n, 0, none⟩ = some v0 ∧ W.cell? ⟨n, 1, none⟩ = some v1 ∧ W.cell? ⟨n, 2, none⟩ = some v2 ∧ W.cell? ⟨n, 3, none⟩ = some v3 ∧ n < W.heap.size) (hb : Below W.heap.size W w1) :
    w1.cell? ⟨n, 0, none⟩ = some v0 ∧ w1.cell? ⟨n, 1, none⟩ = some v1 ∧ w1.cell? ⟨n, 2, none⟩ = some v2 ∧ w1.cell? ⟨n, 3, none⟩ = some v3 := by
  obtain ⟨h0, h1, h2, h3, hn⟩ := h
  have k := fun o => hb.cell (p := ⟨n, o, none⟩) hn
  exact ⟨(k 0).trans h0, (k 1).trans h1, (k 2).trans h2, (k 3).trans h3⟩
set_option maxRecDepth 100000 in
set_option maxHeartbeats 1600000 in
theorem ScreenSees_walk (A : Option Addr) (c : Nat) (l : List Sg) (x : Sg) (w : World) (hr : Rd w w.heap.size A (l.flatMap Sg.cells)) (hc : l.length ≤ c) (hcm : c ≤ maxLen) :
    Calls Try.prog 4 #[.slice A l.length c, x.v] w fun e w' => e = .returned (.bool true) ∧ Below w.heap.size w w' := by
  have HR := Lib.hid hr
  clear hr
  unfold maxLen at hcm
  obtain ⟨⟨x0, y0⟩, ⟨x1, y1⟩⟩ := x
  unfold Sg.v
  simp only
  obtain ⟨W, hW, h0, h1, h2, h3, hs, hb0⟩ := one_box w (.int .i64 x0) (.int .i64 y0) (.int .i64 x1) (.int .i64 y1) 25
  have F := Lib.hid (And.intro h0 (And.intro h1 (And.intro h2 (And.intro h3 hs))))
  have B := Lib.hid hb0
  have RW := Lib.hid ((HR.out.below hb0 (Nat.le_refl _)).more hb0.size)
  clear hb0 hs
  by_cases hlong : 100 < l.length
  · have HL := Lib.hid (fun w => Long_nil A c l.length true w (by omega) (by simpa using hlong))
    clear hlong h0 h1 h2 h3
    go_enter Try.func4, Try.ntmps4
    go_wp2_with fail
    refine (HL.out W).mono ?_
    rintro e w' ⟨rfl, rfl⟩
    go_wp2_with fail
    refine (known_ok W).mono ?_
    rintro e w1 ⟨rfl, hb⟩
    go_wp2_with fail
    go_ret
    exact ⟨rfl, B.out.trans (hb.mono B.out.size)⟩
  · have HL := Lib.hid (fun w => Long_nil A c l.length false w (by omega) (by simpa using hlong))
    have S1 := Lib.hid (fun w h => Sees_any A c l.length l ⟨x0, y0⟩ ⟨x1, y1⟩ w rfl h (by omega))
    have S2 := Lib.hid (fun w h => rSees_any A c l ⟨x0, y0⟩ ⟨x1, y1⟩ w h (by omega))
    have C1 := Lib.hid (fun w h => Cutters_any A c l ⟨x0, y0⟩ ⟨x1, y1⟩ w h (by omega))
    have C2 := Lib.hid (fun w h => rCutters_any A c l ⟨x0, y0⟩ ⟨x1, y1⟩ w h (by omega))
    have S3 := Lib.hid (fun w h => Sees_any A c l.length l ⟨x1, y1⟩ ⟨x0, y0⟩ w rfl h (by omega))
    have V1 := Lib.hid (fun w h => Validate_any A c l w h (by omega))
    have V2 := Lib.hid (fun w h => rValidate_any A c l w h (by omega))
    have HCL := Lib.hid (show (cutV l ⟨x0, y0⟩ ⟨x1, y1⟩).length ≤ 1000 by
      unfold cutV
      split
      · have := cutK_le l ⟨x0, y0⟩ ⟨x1, y1⟩ l.length
        unfold cutL
        omega
      · simp)
    rw [seesV_rev, sightE_rev] at S3
    clear hlong
    generalize seesV l ⟨x0, y0⟩ ⟨x1, y1⟩ = v at *
    generalize sightE l ⟨x0, y0⟩ ⟨x1, y1⟩ = E at *
    generalize cutV l ⟨x0, y0⟩ ⟨x1, y1⟩ = K at *
    generalize valE l = V at *
    unfold Pt.v at *
    simp only at S1 S2 C1 C2 S3
    go_enter Try.func4, Try.ntmps4
    go_wp2_with fail
    refine (HL.out W).mono ?_
    rintro e w' ⟨rfl, rfl⟩
    go_wp2_with fail
    clear hW h0 h1 h2 h3
    refine (S1.out W RW.out).mono ?_
    rintro e w1 ⟨rfl, hb⟩
    have B1 := Lib.hid hb
    obtain ⟨h0, h1, h2, h3⟩ := box_keep F.out hb
    have R1 := Lib.hid ((RW.out.below hb (Nat.le_refl _)).more hb.size)
    clear hb
    go_wp2_with fail
    clear h0 h1 h2 h3
    refine (S2.out w1 R1.out).mono ?_
    rintro e w2 ⟨rfl, hb⟩
    have B2 := Lib.hid (B1.out.trans (hb.mono B1.out.size))
    clear hb
    obtain ⟨h0, h1, h2, h3⟩ := box_keep F.out B2.out
    have R2 := Lib.hid ((RW.out.below B2.out (Nat.le_refl _)).more B2.out.size)
    go_wp2_with fail
    clear h0 h1 h2 h3
    refine (C1.out w2 R2.out).mono ?_
    rintro e w3 ⟨A3, c3, rfl, hr3, hb⟩
    have Q3 := Lib.hid hr3
    have B3 := Lib.hid (B2.out.trans (hb.mono B2.out.size))
    clear hb hr3
    obtain ⟨h0, h1, h2, h3⟩ := box_keep F.out B3.out
    have R3 := Lib.hid ((RW.out.below B3.out (Nat.le_refl _)).more B3.out.size)
    go_wp2_with fail
    clear h0 h1 h2 h3
    refine (C2.out w3 R3.out).mono ?_
    rintro e w4 ⟨A4, c4, rfl, hr4, hb⟩
    have Q4 := Lib.hid hr4
    have P4 := Lib.hid ((Q3.out.below hb (Nat.le_refl _)).more hb.size)
    have B4 := Lib.hid (B3.out.trans (hb.mono B3.out.size))
    clear hb hr4
    obtain ⟨h0, h1, h2, h3⟩ := box_keep F.out B4.out
    have R4 := Lib.hid ((RW.out.below B4.out (Nat.le_refl _)).more B4.out.size)
    go_wp2_with fail
    clear h0 h1 h2 h3
    refine (S3.out w4 R4.out).mono ?_
    rintro e w5 ⟨rfl, hb⟩
    have Q5 := Lib.hid ((Q4.out.below hb (Nat.le_refl _)).more hb.size)
    have P5 := Lib.hid ((P4.out.below hb (Nat.le_refl _)).more hb.size)
    have B5 := Lib.hid (B4.out.trans (hb.mono B4.out.size))
    clear hb
    have R5 := Lib.hid ((RW.out.below B5.out (Nat.le_refl _)).more B5.out.size)
    go_wp2_with fail
    refine (V1.out w5 R5.out).mono ?_
    rintro e w6 ⟨rfl, hb⟩
    have Q6 := Lib.hid ((Q5.out.below hb (Nat.le_refl _)).more hb.size)
    have P6 := Lib.hid ((P5.out.below hb (Nat.le_refl _)).more hb.size)
    have B6 := Lib.hid (B5.out.trans (hb.mono B5.out.size))
    clear hb
    have R6 := Lib.hid ((RW.out.below B6.out (Nat.le_refl _)).more B6.out.size)
    go_wp2_with fail
    refine (V2.out w6 R6.out).mono ?_
    rintro e w7 ⟨rfl, hb⟩
    have Q7 := Lib.hid ((Q6.out.below hb (Nat.le_refl _)).more hb.size)
    have P7 := Lib.hid ((P6.out.below hb (Nat.le_refl _)).more hb.size)
    have B7 := Lib.hid (B6.out.trans (hb.mono B6.out.size))
    clear hb
    go_wp2_with fail
    refine (SameInts_same A3 A4 c3 c4 K _ _ w7 rfl rfl P7.out Q7.out HCL.out).mono ?_
    rintro e w' ⟨rfl, m, rfl⟩
    go_wp2_with fail
    refine (known_ok (w7.drewN m)).mono ?_
    rintro e w8 ⟨rfl, hb⟩
    have B8 := Lib.hid (B7.out.trans (((below_drewN (Below.refl _ _) m).trans hb).mono B7.out.size))
    clear hb
    go_wp2_with fail
    go_ret
    exact ⟨rfl, B.out.trans (B8.out.mono B.out.size)⟩
end Go.Proofs.Ytcefcpplkcebjaa

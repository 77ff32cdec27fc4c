/-
  Fractions of the program: the walks of divisor and fraction. Condition: numbers far from the ends of int64.
-/
import Derived.Test.YtfmhanpibgmgfaaProg
import Derived.Test.YtfmhanpibgmgfaaPu2
namespace Go.Proofs.Ytfmhanpibgmgfaa
open Go.RowKit
set_option linter.unusedVariables false

set_option maxRecDepth 4000 in
set_option maxHeartbeats 1000000 in
theorem divisor_any (a b : Int) (ha : Mid a) (hb : Mid b) (w : World) :
    Calls Try.prog 111 #[.int .i64 a, .int .i64 b] w fun e w' => e = .returned (.int .i64 (gcdZ a b : Nat)) ∧ ∃ m, w' = w.drewN m := by
  obtain ⟨g, hg⟩ : ∃ g, g = gcdZ a b := ⟨_, rfl⟩
  have HG := Lib.hid hg
  rw [← hg]
  clear hg
  unfold Mid at ha hb
  go_enter Try.func111, Try.ntmps111
  go_wp2_with fail
  go_loopw [0, 1] (fun u v wr => ∃ (x y : Int) (m : Nat), (-4000000000000000000 ≤ x ∧ x ≤ 4000000000000000000) ∧ (-4000000000000000000 ≤ y ∧ y ≤ 4000000000000000000) ∧ u = .int .i64 x ∧ v = .int .i64 y ∧ gcdZ x y = g ∧ wr = w.drewN m) (fun _ v _ => (intOf v).natAbs)
  case atStart => exact ⟨a, b, 0, ha, hb, rfl, rfl, HG.out.symm, rfl⟩
  case round =>
    obtain ⟨x, y, m, ⟨hx0, hx1⟩, ⟨hy0, hy1⟩, rfl, rfl, h, hw⟩ := hrel
    have HE := Lib.hid h
    have HW := Lib.hid hw
    clear h hw
    by_cases hy : y = 0
    · have HX := Lib.hid (show max x (-x) = (g : Int) by
        have := HE.out
        rw [hy] at this
        unfold gcdZ at this
        rw [Int.natAbs_zero, Nat.gcd_zero_right] at this
        omega)
      subst hy
      clear HE
      go_wp2_with fail
      all_goals (have hx := HX.out; go_ret; exact ⟨congrArg (fun z => Ending.returned (Value.int .i64 z)) (by omega), m, HW.out⟩)
    · have e1 : (y != 0) = true := by simpa using hy
      have HT := Lib.hid (tmod_lt x hy)
      have HM := Lib.hid (show -4000000000000000000 ≤ Int.tmod x y ∧ Int.tmod x y ≤ 4000000000000000000 by have := HT.out; omega)
      have hwr : IntKind.i64.wrap (Int.tmod x y) = Int.tmod x y := wrapI_mid HM.out
      have HN := Lib.hid (show gcdZ y (Int.tmod x y) = g by rw [gcdZ_step]; exact HE.out)
      have e2 : (y == 0) = false := by simpa using hy
      go_wp2_with fail
      go_quiet (fail)
      go_wp2_with fail
      go_roundw
      case rel => exact ⟨y, Int.tmod x y, _, ⟨hy0, hy1⟩, HM.out, rfl, rfl, HN.out, by rw [HW.out]; exact World.drewN_drewN _ _ _⟩
      case measure => exact HT.out
theorem sizeRat : (Try.prog.info? 36).map (·.size) = some 2 := by kernel_rfl
set_option maxRecDepth 4000 in
set_option maxHeartbeats 1000000 in
theorem fraction_any (n d : Int) (hn : Mid n) (hd : Mid d) (h0 : d ≠ 0) (w : World) :
    Calls Try.prog 95 #[.int .i64 n, .int .i64 d] w fun e w' => e = .returned (ratZ (frZ n d)) ∧ Below w.heap.size w w' := by
  obtain ⟨W, hW, hg, hs1, hb0⟩ := one_blk w #[.int .i64 0, .int .i64 0] 36
  have HW := Lib.hid hW
  have HB := Lib.hid hb0
  have HD := Lib.hid (divisor_any n d hn hd W)
  have HF := Lib.hid (show frZ n d = (Int.tdiv n (gcdZ n d : Nat), Int.tdiv d (gcdZ n d : Nat)) from rfl)
  have hp : 0 < gcdZ n d := Nat.gcd_pos_of_pos_right _ (by omega)
  generalize gcdZ n d = g at *
  have e1 : ((g : Int) == 0) = false := by simp; omega
  have e1' : (g == 0) = false := by simp; omega
  have hne : (g : Int) ≠ 0 := by omega
  have hne' : g ≠ 0 := by omega
  have q1 : IntKind.i64.wrap (Int.tdiv n (g : Int)) = Int.tdiv n (g : Int) := wrapI_mid (tdiv_mid hn _)
  have q2 : IntKind.i64.wrap (Int.tdiv d (g : Int)) = Int.tdiv d (g : Int) := wrapI_mid (tdiv_mid hd _)
  have q3 : wrap64 (Int.tdiv n (g : Int)) = Int.tdiv n (g : Int) := wrap_mid (tdiv_mid hn _)
  have q4 : wrap64 (Int.tdiv d (g : Int)) = Int.tdiv d (g : Int) := wrap_mid (tdiv_mid hd _)
  clear hW hb0 hn hd h0
  go_enter Try.func95, Try.ntmps95
  go_wp2_with fail
  rw [HW.out]
  refine HD.out.mono ?_
  rintro e w1 ⟨rfl, m, hm⟩
  have hg1 := (show w1.heap[w.heap.size]? = W.heap[w.heap.size]? by rw [hm]; rfl).trans hg
  have hb1 : Below w.heap.size w w1 := by rw [hm]; exact bdN' HB.out m
  obtain ⟨d0, f0, d1, f1, HR⟩ := put2 hg1 (.int .i64 (Int.tdiv n (g : Int))) (.int .i64 (Int.tdiv d (g : Int)))
  have BZ := Lib.hid (put2_below (W := w1) (g := w.heap.size) (.int .i64 (Int.tdiv n (g : Int))) (.int .i64 (Int.tdiv d (g : Int))) hb1 (Nat.le_refl _) (by rw [hm]; exact Nat.le_of_lt hs1))
  clear hg hg1 hb1 hm
  go_wp2_with fail
  go_region
  go_wp2_with fail
  (try simp only [Exit.inBlock, Exit.then])
  refine bodyPost_ret (v := ratZ (Int.tdiv n (g : Int), Int.tdiv d (g : Int))) ?_ rfl ⟨by rw [HF.out], BZ.out.drew⟩
  exact results_cell_row rfl _ _ w.heap.size 36 _ _ _ rfl HR.out Try.underlying36 rfl sizeRat
end Go.Proofs.Ytfmhanpibgmgfaa

/-
  Greatest common divisors of the program, of numbers of either sign; fractions; oneIf. Condition: numbers far from the ends of int64.
-/
import Derived.Test.YtegehfcnclpdeaaProg
import Derived.Test.YtegehfcnclpdeaaGen
import Derived.Lib.Hide
namespace Go.Proofs.Ytegehfcnclpdeaa
open Go.RowKit
set_option linter.unusedVariables false

/-- Far from the ends of int64. -/
def Mid (x : Int) : Prop := -4000000000000000000 ≤ x ∧ x ≤ 4000000000000000000
def gcdZ (a b : Int) : Nat := Nat.gcd a.natAbs b.natAbs
theorem gcdZ_step (x y : Int) : gcdZ y (Int.tmod x y) = gcdZ x y := by
  unfold gcdZ
  rw [Int.natAbs_tmod, Nat.gcd_comm x.natAbs, Nat.gcd_rec y.natAbs x.natAbs, Nat.gcd_comm]
theorem tmod_lt (x : Int) {y : Int} (hy : y ≠ 0) : (Int.tmod x y).natAbs < y.natAbs := by
  rw [Int.natAbs_tmod]
  exact Nat.mod_lt _ (by omega)
theorem wrapI_mid {x : Int} (h : Mid x) : IntKind.i64.wrap x = x := by
  unfold Mid at h
  rw [IntKind.wrap_i64]
  omega
theorem wrap_mid {x : Int} (h : Mid x) : wrap64 x = x := by
  unfold Mid at h
  unfold wrap64
  omega
set_option maxRecDepth 4000 in
set_option maxHeartbeats 1000000 in
theorem divisor_any (a b : Int) (ha : Mid a) (hb : Mid b) (w : World) :
    Calls Try.prog 102 #[.int .i64 a, .int .i64 b] w fun e w' => e = .returned (.int .i64 (gcdZ a b : Nat)) ∧ ∃ m, w' = w.drewN m := by
  obtain ⟨g, hg⟩ : ∃ g, g = gcdZ a b := ⟨_, rfl⟩
  have HG := Lib.hid hg
  rw [← hg]
  clear hg
  unfold Mid at ha hb
  go_enter Try.func102, Try.ntmps102
  go_wp2_with fail
  go_loopw [0, 1] (fun u v wr => ∃ (x y : Int) (m : Nat), (-4000000000000000000 ≤ x ∧ x ≤ 4000000000000000000) ∧ (-4000000000000000000 ≤ y ∧ y ≤ 4000000000000000000) ∧ u = .int .i64 x ∧ v = .int .i64 y ∧ gcdZ x y = g ∧ wr = w.drewN m) (fun _ v _ => (intOf v).natAbs)
  case atStart => exact ⟨a, b, 0, ha, hb, rfl, rfl, HG.out.symm, rfl⟩
  case round =>
    obtain ⟨x, y, m, ⟨hx0, hx1⟩, ⟨hy0, hy1⟩, rfl, rfl, h, hw⟩ := hrel
    have HE := Lib.hid h
    have HW := Lib.hid hw
    clear h hw
    by_cases hy : y = 0
    · have HX := Lib.hid (show max x (-x) = (g : Int) by
        have := HE.out
        rw [hy] at this
        unfold gcdZ at this
        rw [Int.natAbs_zero, Nat.gcd_zero_right] at this
        omega)
      subst hy
      clear HE
      go_wp2_with fail
      all_goals (have hx := HX.out; go_ret; exact ⟨congrArg (fun z => Ending.returned (Value.int .i64 z)) (by omega), m, HW.out⟩)
    · have e1 : (y != 0) = true := by simpa using hy
      have HT := Lib.hid (tmod_lt x hy)
      have HM := Lib.hid (show -4000000000000000000 ≤ Int.tmod x y ∧ Int.tmod x y ≤ 4000000000000000000 by have := HT.out; omega)
      have hwr : IntKind.i64.wrap (Int.tmod x y) = Int.tmod x y := wrapI_mid HM.out
      have HN := Lib.hid (show gcdZ y (Int.tmod x y) = g by rw [gcdZ_step]; exact HE.out)
      have e2 : (y == 0) = false := by simpa using hy
      go_wp2_with fail
      go_quiet (fail)
      go_wp2_with fail
      go_roundw
      case rel => exact ⟨y, Int.tmod x y, _, ⟨hy0, hy1⟩, HM.out, rfl, rfl, HN.out, by rw [HW.out]; exact World.drewN_drewN _ _ _⟩
      case measure => exact HT.out
theorem oneIf_any (b : Bool) (w : World) : Calls Try.prog 90 #[.bool b] w fun e w' => e = .returned (.int .i64 (if b = true then 1 else 0)) ∧ w = w' := by
  cases b
  · go_enter Try.func90, Try.ntmps90
    go_wp2_with fail
    go_ret
    exact ⟨rfl, rfl⟩
  · go_enter Try.func90, Try.ntmps90
    go_wp2_with fail
    go_ret
    exact ⟨rfl, rfl⟩
theorem tdiv_mid {x : Int} (h : Mid x) (g : Int) : Mid (Int.tdiv x g) := by
  have h1 : (Int.tdiv x g).natAbs ≤ x.natAbs := by rw [Int.natAbs_tdiv]; exact Nat.div_le_self _ _
  unfold Mid at *
  omega
theorem sizeRat : (Try.prog.info? 29).map (·.size) = some 2 := by kernel_rfl
/-- A fraction, as the program holds it. -/
def ratZ (p : Int × Int) : Value := .agg #[.int .i64 p.1, .int .i64 p.2]
/-- n / d in lowest terms. -/
def frZ (n d : Int) : Int × Int := (Int.tdiv n (gcdZ n d : Nat), Int.tdiv d (gcdZ n d : Nat))
theorem grown_setC (w : World) (b i : Nat) (u : Value) : w.grownBy (w.setCell ⟨b, i, none⟩ u) (some b) :=
  ⟨rfl, rfl, rfl, by simp [World.setCell], fun k hk hne => by
    have : k ≠ b := fun e => hne (by rw [e])
    simp [World.setCell, Array.getElem?_modify, Ne.symm this]⟩
/-- A cell of two, stored anew. -/
theorem put2 {W : World} {g : Nat} {x y : Value} {t : TypeId} (h : W.heap[g]? = some (.cells #[x, y] t (0, 0))) (a b : Value) :
    W.cell? ⟨g, 0, none⟩ = some x ∧ W.frozen? ⟨g, 0, none⟩ = false ∧ (W.setCell ⟨g, 0, none⟩ a).cell? ⟨g, 1, none⟩ = some y ∧ (W.setCell ⟨g, 0, none⟩ a).frozen? ⟨g, 1, none⟩ = false ∧
    Hid (((W.setCell ⟨g, 0, none⟩ a).setCell ⟨g, 1, none⟩ b).heap[g]? = some (.cells #[a, b] t (0, 0))) := by
  have h1 := blk_set h 0 a
  exact ⟨blk_cell h, blk_free h 0, blk_cell h1, blk_free h1 1, blk_set h1 1 b⟩
theorem put2_below {B : Nat} {w W : World} {g : Nat} (a b : Value) (h : Below B w W) (hg : B ≤ g) (hs : B ≤ W.heap.size) : Below B w ((W.setCell ⟨g, 0, none⟩ a).setCell ⟨g, 1, none⟩ b) :=
  h.grown ((grown_setC W g 0 a).trans (grown_setC _ g 1 b)) hs fun q hq => by injection hq with hq; omega
theorem bdN' {B : Nat} {w w' : World} (h : Below B w w') (n : Nat) : Below B w (w'.drewN n) := ⟨h.os, h.tape, h.output, h.size, h.block⟩
set_option maxRecDepth 4000 in
set_option maxHeartbeats 1000000 in
theorem fraction_any (n d : Int) (hn : Mid n) (hd : Mid d) (h0 : d ≠ 0) (w : World) :
    Calls Try.prog 93 #[.int .i64 n, .int .i64 d] w fun e w' => e = .returned (ratZ (frZ n d)) ∧ Below w.heap.size w w' := by
  obtain ⟨W, hW, hg, hs1, hb0⟩ := one_blk w #[.int .i64 0, .int .i64 0] 29
  have HW := Lib.hid hW
  have HB := Lib.hid hb0
  have HD := Lib.hid (divisor_any n d hn hd W)
  have HF := Lib.hid (show frZ n d = (Int.tdiv n (gcdZ n d : Nat), Int.tdiv d (gcdZ n d : Nat)) from rfl)
  have hp : 0 < gcdZ n d := Nat.gcd_pos_of_pos_right _ (by omega)
  generalize gcdZ n d = g at *
  have e1 : ((g : Int) == 0) = false := by simp; omega
  have e1' : (g == 0) = false := by simp; omega
  have hne : (g : Int) ≠ 0 := by omega
  have hne' : g ≠ 0 := by omega
  have q1 : IntKind.i64.wrap (Int.tdiv n (g : Int)) = Int.tdiv n (g : Int) := wrapI_mid (tdiv_mid hn _)
  have q2 : IntKind.i64.wrap (Int.tdiv d (g : Int)) = Int.tdiv d (g : Int) := wrapI_mid (tdiv_mid hd _)
  have q3 : wrap64 (Int.tdiv n (g : Int)) = Int.tdiv n (g : Int) := wrap_mid (tdiv_mid hn _)
  have q4 : wrap64 (Int.tdiv d (g : Int)) = Int.tdiv d (g : Int) := wrap_mid (tdiv_mid hd _)
  clear hW hb0 hn hd h0
  go_enter Try.func93, Try.ntmps93
  go_wp2_with fail
  rw [HW.out]
  refine HD.out.mono ?_
  rintro e w1 ⟨rfl, m, hm⟩
  have hg1 := (show w1.heap[w.heap.size]? = W.heap[w.heap.size]? by rw [hm]; rfl).trans hg
  have hb1 : Below w.heap.size w w1 := by rw [hm]; exact bdN' HB.out m
  obtain ⟨d0, f0, d1, f1, HR⟩ := put2 hg1 (.int .i64 (Int.tdiv n (g : Int))) (.int .i64 (Int.tdiv d (g : Int)))
  have BZ := Lib.hid (put2_below (W := w1) (g := w.heap.size) (.int .i64 (Int.tdiv n (g : Int))) (.int .i64 (Int.tdiv d (g : Int))) hb1 (Nat.le_refl _) (by rw [hm]; exact Nat.le_of_lt hs1))
  clear hg hg1 hb1 hm
  go_wp2_with fail
  go_region
  go_wp2_with fail
  (try simp only [Exit.inBlock, Exit.then])
  refine bodyPost_ret (v := ratZ (Int.tdiv n (g : Int), Int.tdiv d (g : Int))) ?_ rfl ⟨by rw [HF.out], BZ.out.drew⟩
  exact results_cell_row rfl _ _ w.heap.size 29 _ _ _ rfl HR.out Try.underlying29 rfl sizeRat
end Go.Proofs.Ytegehfcnclpdeaa

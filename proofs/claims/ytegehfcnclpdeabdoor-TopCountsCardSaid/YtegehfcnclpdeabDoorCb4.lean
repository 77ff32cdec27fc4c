/-
  Greatest divisors, fractions, products of two words, comparing: the walks of both sides. Condition: numbers from 0 on.
-/
import Derived.Test.YtegehfcnclpdeabDoorCb3
import Derived.Shelf.Bits.Mul64
namespace Go.Proofs.YtegehfcnclpdeabDoor
open Go.RowKit
set_option linter.unusedVariables false

theorem tmod_nat (x y : Nat) : Int.tmod (x : Int) (y : Int) = ((x % y : Nat) : Int) := by
  rw [Int.tmod_eq_emod_of_nonneg (by omega)]
  rfl
theorem tdiv_nat (x y : Nat) : Int.tdiv (x : Int) (y : Int) = ((x / y : Nat) : Int) := by
  rw [Int.tdiv_eq_ediv_of_nonneg (by omega)]
  rfl
set_option maxRecDepth 4000 in
set_option maxHeartbeats 1000000 in
theorem divisor_any (a b : Nat) (ha : a ≤ 9223372036854775807) (hb : b ≤ 9223372036854775807) (w : World) :
    Calls Tryd.prog 33 #[.int .i64 a, .int .i64 b] w fun e w' => e = .returned (.int .i64 (Nat.gcd a b : Nat)) ∧ ∃ m, w' = w.drewN m := by
  obtain ⟨g, hg⟩ : ∃ g, g = Nat.gcd a b := ⟨_, rfl⟩
  have HG := Lib.hid hg
  rw [← hg]
  clear hg
  go_enter Tryd.func33, Tryd.ntmps33
  go_wp2_with fail
  go_loopw [0, 1] (fun u v wr => ∃ x y m : Nat, x ≤ 9223372036854775807 ∧ y ≤ 9223372036854775807 ∧ u = .int .i64 x ∧ v = .int .i64 y ∧ Nat.gcd x y = g ∧ wr = w.drewN m) (fun _ v _ => (intOf v).toNat)
  case atStart => exact ⟨a, b, 0, ha, hb, rfl, rfl, HG.out.symm, rfl⟩
  case round =>
    obtain ⟨x, y, m, hx, hy, rfl, rfl, h, hw⟩ := hrel
    have HE := Lib.hid h
    have HW := Lib.hid hw
    clear h hw
    cases y with
    | zero =>
      have HX := Lib.hid (show x = g by have := HE.out; rwa [Nat.gcd_zero_right] at this)
      go_wp2_with fail
      go_ret
      exact ⟨by rw [← HX.out]; rfl, m, HW.out⟩
    | succ n =>
      obtain ⟨y, hyn⟩ : ∃ y, y = n + 1 := ⟨_, rfl⟩
      rw [← hyn] at HE hy
      rw [← hyn]
      have e1 : ((y : Int) != 0) = true := by simp; omega
      have e1' : (y != 0) = true := by simp; omega
      have e2 : ((y : Int) == 0) = false := by simp; omega
      have HR := Lib.hid (tmod_nat x y)
      have HL := Lib.hid (show x % y < y from Nat.mod_lt _ (by omega))
      have HN := Lib.hid (show Nat.gcd y (x % y) = g by rw [← HE.out, Nat.gcd_comm x y, Nat.gcd_rec y x, Nat.gcd_comm])
      have hne : (y : Int) ≠ 0 := by omega
      clear hyn
      go_wp2_with fail
      go_region
      go_wp2_with fail
      go_roundw
      case rel => exact ⟨y, x % y, m + 1, hy, by have := HL.out; omega, rfl, by first | rfl | (rw [← HR.out]; rfl) | (rw [← HR.out]; go_num), HN.out, by rw [HW.out]; rfl⟩
      case measure => have := HL.out; have := HR.out; simp [intOf]; omega

theorem wrap_div {n g : Nat} (h : n ≤ 9223372036854775807) : wrap64 ((n : Int) / (g : Int)) = ((n / g : Nat) : Int) := by
  have h1 := Nat.div_le_self n g
  rw [show (n : Int) / (g : Int) = ((n / g : Nat) : Int) from rfl]
  generalize n / g = x at *
  unfold wrap64
  omega
theorem sizeRat : (Tryd.prog.info? 31).map (·.size) = some 2 := by kernel_rfl
/-- A fraction, as the program holds it. -/
def ratV (p : Nat × Nat) : Value := .agg #[.int .i64 (p.1 : Nat), .int .i64 (p.2 : Nat)]
theorem grown_setC (w : World) (b i : Nat) (u : Value) : w.grownBy (w.setCell ⟨b, i, none⟩ u) (some b) :=
  ⟨rfl, rfl, rfl, by simp [World.setCell], fun k hk hne => by
    have : k ≠ b := fun e => hne (by rw [e])
    simp [World.setCell, Array.getElem?_modify, Ne.symm this]⟩
/-- A cell of two, stored anew. -/
theorem put2 {W : World} {g : Nat} {x y : Value} {t : TypeId} (h : W.heap[g]? = some (.cells #[x, y] t (0, 0))) (a b : Value) :
    W.cell? ⟨g, 0, none⟩ = some x ∧ W.frozen? ⟨g, 0, none⟩ = false ∧ (W.setCell ⟨g, 0, none⟩ a).cell? ⟨g, 1, none⟩ = some y ∧ (W.setCell ⟨g, 0, none⟩ a).frozen? ⟨g, 1, none⟩ = false ∧
    Hid (((W.setCell ⟨g, 0, none⟩ a).setCell ⟨g, 1, none⟩ b).heap[g]? = some (.cells #[a, b] t (0, 0))) := by
  have h1 := blk_set h 0 a
  exact ⟨blk_cell h, blk_free h 0, blk_cell h1, blk_free h1 1, blk_set h1 1 b⟩
theorem put2_below {B : Nat} {w W : World} {g : Nat} (a b : Value) (h : Below B w W) (hg : B ≤ g) (hs : B ≤ W.heap.size) : Below B w ((W.setCell ⟨g, 0, none⟩ a).setCell ⟨g, 1, none⟩ b) :=
  h.grown ((grown_setC W g 0 a).trans (grown_setC _ g 1 b)) hs fun q hq => by injection hq with hq; omega
set_option maxRecDepth 4000 in
set_option maxHeartbeats 1000000 in
theorem fraction_any (n d : Nat) (hn : n ≤ 9223372036854775807) (hd : d ≤ 9223372036854775807) (h0 : 0 < d) (w : World) :
    Calls Tryd.prog 19 #[.int .i64 n, .int .i64 d] w fun e w' => e = .returned (ratV (fr n d)) ∧ Below w.heap.size w w' := by
  obtain ⟨W, hW, hg, hs1, hb0⟩ := one_blk w #[.int .i64 0, .int .i64 0] 31
  have HW := Lib.hid hW
  have HB := Lib.hid hb0
  have HD := Lib.hid (divisor_any n d hn hd W)
  have HF := Lib.hid (show fr n d = (n / Nat.gcd n d, d / Nat.gcd n d) from rfl)
  have hp := gcd_pos' (n := n) h0
  have hle : Nat.gcd n d ≤ d := Nat.gcd_le_right _ h0
  generalize Nat.gcd n d = g at *
  have e1 : ((g : Int) == 0) = false := by simp; omega
  have hne : (g : Int) ≠ 0 := by omega
  have Q1 := Lib.hid (wrap_div (n := n) (g := g) hn)
  have Q2 := Lib.hid (wrap_div (n := d) (g := g) hd)
  clear hW hb0
  go_enter Tryd.func19, Tryd.ntmps19
  go_wp2_with fail
  rw [HW.out]
  refine HD.out.mono ?_
  rintro e w1 ⟨rfl, m, hm⟩
  have hg1 := (show w1.heap[w.heap.size]? = W.heap[w.heap.size]? by rw [hm]; rfl).trans hg
  have hb1 : Below w.heap.size w w1 := by rw [hm]; exact bdN HB.out m
  obtain ⟨d0, f0, d1, f1, HR⟩ := put2 hg1 (.int .i64 (wrap64 ((n : Int) / (g : Int)))) (.int .i64 (wrap64 ((d : Int) / (g : Int))))
  have BZ := Lib.hid (put2_below (W := w1) (g := w.heap.size) (.int .i64 (wrap64 ((n : Int) / (g : Int)))) (.int .i64 (wrap64 ((d : Int) / (g : Int)))) hb1 (Nat.le_refl _) (by rw [hm]; exact Nat.le_of_lt hs1))
  clear hg hg1 hb1 hm
  go_wp2_with fail
  go_region
  go_wp2_with fail
  (try simp only [Exit.inBlock, Exit.then])
  refine bodyPost_ret (v := ratV (n / g, d / g)) ?_ rfl ⟨?_, BZ.out.drew⟩
  · rw [show ratV (n / g, d / g) = .agg #[.int .i64 (wrap64 ((n : Int) / (g : Int))), .int .i64 (wrap64 ((d : Int) / (g : Int)))] by rw [Q1.out, Q2.out]; rfl]
    exact results_cell_row rfl _ _ w.heap.size 31 _ _ _ rfl HR.out Tryd.underlying31 rfl sizeRat
  · rw [HF.out]
end Go.Proofs.YtegehfcnclpdeabDoor

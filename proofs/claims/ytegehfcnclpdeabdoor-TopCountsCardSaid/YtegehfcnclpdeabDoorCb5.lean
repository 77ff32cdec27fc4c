/-
  Products of two words and how fractions compare: the walks of Mul64, Compare, Or, compareFractions, above. Condition: numbers from 0 on.
-/
import Derived.Test.YtegehfcnclpdeabDoorCb4
namespace Go.Proofs.YtegehfcnclpdeabDoor
open Go.RowKit
set_option linter.unusedVariables false

set_option maxHeartbeats 1000000 in
theorem Mul64_any (x y : Nat) (hx : x < 18446744073709551616) (hy : y < 18446744073709551616) (w : World) :
    Calls Tryd.prog 43 #[.int .u64 x, .int .u64 y] w fun e w' => e = .returned (.tuple #[.int .u64 ((x * y / 18446744073709551616 : Nat) : Int), .int .u64 ((x * y % 18446744073709551616 : Nat) : Int)]) ∧ w = w' := by
  obtain ⟨bd, bt, bw, hhi⟩ := Lib.mul64_hi x y hx hy
  have ba := Lib.half_mul_le (a := x / 4294967296) (b := y / 4294967296) (by omega) (by omega)
  have bb := Lib.half_mul_le (a := x / 4294967296) (b := y % 4294967296) (by omega) (by omega)
  have bc := Lib.half_mul_le (a := x % 4294967296) (b := y / 4294967296) (by omega) (by omega)
  have ba' : x / 4294967296 * (y / 4294967296) < 18446744073709551616 := by omega
  have bb' : x / 4294967296 * (y % 4294967296) < 18446744073709551616 := by omega
  have bc' : x % 4294967296 * (y / 4294967296) < 18446744073709551616 := by omega
  have bh1 : x / 4294967296 * (y / 4294967296) + (x / 4294967296 * (y % 4294967296) + x % 4294967296 * (y % 4294967296) / 4294967296) / 4294967296 < 18446744073709551616 := by omega
  have bh : x / 4294967296 * (y / 4294967296) + (x / 4294967296 * (y % 4294967296) + x % 4294967296 * (y % 4294967296) / 4294967296) / 4294967296 + ((x / 4294967296 * (y % 4294967296) + x % 4294967296 * (y % 4294967296) / 4294967296) % 4294967296 + x % 4294967296 * (y / 4294967296)) / 4294967296 < 18446744073709551616 := by omega
  go_enter Tryd.func43, Tryd.ntmps43
  go_wp2
  simp only [Mul64.maskN x hx, Mul64.maskN y hy, Mul64.divN, Mul64.mulN, Mul64.addN, Mul64.wrapN _ bd, Mul64.wrapN _ bb', Mul64.wrapN _ bt, Mul64.maskN _ bt, Mul64.wrapN _ bc', Mul64.wrapN _ bw, Mul64.wrapN _ ba', Mul64.wrapN _ bh1, Mul64.wrapN _ bh, Mul64.wrapM (x * y)]
  rw [hhi]
  go_ret2
  exact ⟨rfl, rfl⟩
def cmpN (x y : Nat) : Int := if x < y then -1 else if y < x then 1 else 0
theorem isNaN64_any (x : Int) (w : World) : Calls Tryd.prog 55 #[.int .u64 x] w fun e w' => e = .returned (.bool false) ∧ w = w' := by
  have e1 : (x != x) = false := by simp
  go_enter Tryd.func55, Tryd.ntmps55
  go_wp2_with fail
  go_ret
  exact ⟨rfl, rfl⟩
theorem Compare64_any (x y : Nat) (w : World) : Calls Tryd.prog 45 #[.int .u64 x, .int .u64 y] w fun e w' => e = .returned (.int .i64 (cmpN x y)) ∧ w = w' := by
  have HN := Lib.hid isNaN64_any
  by_cases h : x < y
  · have HE := Lib.hid (show cmpN x y = -1 from if_pos h)
    have e1 : decide ((x : Int) < (y : Int)) = true := by simp; omega
    have e1' : decide (x < y) = true := by simpa using h
    clear h
    go_enter Tryd.func45, Tryd.ntmps45
    go_wp2_with fail
    refine (HN.out x _).mono ?_
    rintro e w' ⟨rfl, rfl⟩
    go_wp2_with fail
    refine (HN.out y _).mono ?_
    rintro e w' ⟨rfl, rfl⟩
    go_wp2_with fail
    go_ret
    exact ⟨by rw [HE.out]; rfl, rfl⟩
  · have e1 : decide ((x : Int) < (y : Int)) = false := by simp; omega
    have e1' : decide (x < y) = false := by simpa using h
    by_cases h2 : y < x
    · have HE := Lib.hid (show cmpN x y = 1 by unfold cmpN; rw [if_neg h, if_pos h2])
      have e2 : decide ((y : Int) < (x : Int)) = true := by simp; omega
      have e2' : decide (y < x) = true := by simpa using h2
      clear h h2
      go_enter Tryd.func45, Tryd.ntmps45
      go_wp2_with fail
      refine (HN.out x _).mono ?_
      rintro e w' ⟨rfl, rfl⟩
      go_wp2_with fail
      refine (HN.out y _).mono ?_
      rintro e w' ⟨rfl, rfl⟩
      go_wp2_with fail
      go_ret
      exact ⟨by rw [HE.out]; rfl, rfl⟩
    · have HE := Lib.hid (show cmpN x y = 0 by unfold cmpN; rw [if_neg h, if_neg h2])
      have e2 : decide ((y : Int) < (x : Int)) = false := by simp; omega
      have e2' : decide (y < x) = false := by simpa using h2
      clear h h2
      go_enter Tryd.func45, Tryd.ntmps45
      go_wp2_with fail
      refine (HN.out x _).mono ?_
      rintro e w' ⟨rfl, rfl⟩
      go_wp2_with fail
      refine (HN.out y _).mono ?_
      rintro e w' ⟨rfl, rfl⟩
      go_wp2_with fail
      go_ret
      exact ⟨by rw [HE.out]; rfl, rfl⟩
/-- The first of two that is not 0. -/
def orI (x y : Int) : Int := if x = 0 then y else x
set_option maxRecDepth 4000 in
theorem Or_any (x y : Int) (w : World) : Calls Tryd.prog 44 #[.slice (some ⟨w.heap.size, 0, none⟩) 2 2] (w.alloc (.cells #[.int .i64 x, .int .i64 y] 3)) fun e w' => e = .returned (.int .i64 (orI x y)) ∧ Below w.heap.size w w' := by
  obtain ⟨W, hW, hg, hs1, hb0⟩ := one_blk w #[.int .i64 x, .int .i64 y] 3
  have c0 := (blk_cell (j := 0) hg).trans (show _ = some (.int .i64 x) from rfl)
  have c1 := (blk_cell (j := 1) hg).trans (show _ = some (.int .i64 y) from rfl)
  have HB := Lib.hid hb0
  rw [hW]
  clear hW hg hs1 hb0
  go_enter Tryd.func44, Tryd.ntmps44
  go_wp2_with fail
  go_loop [8] (fun i => i = .int .i64 0 ∨ i = .int .i64 1 ∧ x = 0 ∨ i = .int .i64 2 ∧ x = 0 ∧ y = 0) (fun i => 2 - (intOf i).toNat)
  case atStart => exact .inl rfl
  case round =>
    rcases hrel with rfl | ⟨rfl, hx⟩ | ⟨rfl, hx, hy⟩
    · by_cases hx : x = 0
      · have e1 : (x != 0) = false := by simpa using hx
        have HX := Lib.hid hx
        clear hx
        go_wp2_with fail
        go_round
        case rel => exact .inr (.inl ⟨by go_num, HX.out⟩)
        case measure => simp [intOf]
      · have e1 : (x != 0) = true := by simpa using hx
        have HE := Lib.hid (show orI x y = x from if_neg hx)
        clear hx
        go_wp2_with fail
        go_ret
        exact ⟨by rw [HE.out]; rfl, HB.out⟩
    · have HX := Lib.hid hx
      have HE := Lib.hid (show orI x y = y from if_pos hx)
      clear hx
      by_cases hy : y = 0
      · have e1 : (y != 0) = false := by simpa using hy
        have HY := Lib.hid hy
        clear hy
        go_wp2_with fail
        go_round
        case rel => exact .inr (.inr ⟨by go_num, HX.out, HY.out⟩)
        case measure => simp [intOf]
      · have e1 : (y != 0) = true := by simpa using hy
        clear hy
        go_wp2_with fail
        go_ret
        exact ⟨by rw [HE.out]; rfl, HB.out⟩
    · have HE := Lib.hid (show orI x y = 0 by rw [hx, hy]; rfl)
      clear hx hy
      go_wp2_with fail
      go_ret
      exact ⟨by rw [HE.out]; rfl, HB.out⟩
/-- High and low words compare as the numbers. -/
theorem cmp_words (x y : Nat) : orI (cmpN (x / 18446744073709551616) (y / 18446744073709551616)) (cmpN (x % 18446744073709551616) (y % 18446744073709551616)) = cmpN x y := by
  unfold orI cmpN
  repeat' split
  all_goals omega
theorem wrap_u {x : Nat} (h : x < 18446744073709551616) : IntKind.u64.wrap (x : Int) = (x : Int) := by rw [IntKind.wrap_u64]; omega
end Go.Proofs.YtegehfcnclpdeabDoor

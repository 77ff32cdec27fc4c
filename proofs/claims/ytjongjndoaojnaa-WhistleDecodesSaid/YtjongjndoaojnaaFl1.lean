/-
  Sorting by insertion, of numbers, by a function: the walks of Compare, of the function inside shortestFirst, of insertionSortCmpFunc. Condition: how what they read lies.
-/
import Derived.Test.YtjongjndoaojnaaSg2
import Derived.Test.YtjongjndoaojnaaLv4
namespace Go.Proofs.Ytjongjndoaojnaa
open Go.RowKit
set_option linter.unusedVariables false

def cmpI (x y : Int) : Int := if x < y then -1 else if y < x then 1 else 0
theorem cmpI_neg (x y : Int) : decide (cmpI x y < 0) = decide (x < y) := by
  unfold cmpI
  split <;> rename_i h
  · rw [decide_eq_true h]; rfl
  · rw [decide_eq_false h]
    split <;> rfl
theorem isNaN_any (x : Int) (w : World) : Calls Try.prog 102 #[.int .i64 x] w fun e w' => e = .returned (.bool false) ∧ w = w' := by
  have e1 : (x != x) = false := by simp
  go_enter Try.func102, Try.ntmps102
  go_wp2_with fail
  go_ret
  exact ⟨rfl, rfl⟩
theorem Compare_any (x y : Int) (w : World) : Calls Try.prog 86 #[.int .i64 x, .int .i64 y] w fun e w' => e = .returned (.int .i64 (cmpI x y)) ∧ w = w' := by
  have HN := Lib.hid isNaN_any
  by_cases h : x < y
  · have HE := Lib.hid (show cmpI x y = -1 from if_pos h)
    have e1 : decide (x < y) = true := by simpa using h
    clear h
    go_enter Try.func86, Try.ntmps86
    go_wp2_with fail
    refine (HN.out x _).mono ?_
    rintro e w' ⟨rfl, rfl⟩
    go_wp2_with fail
    refine (HN.out y _).mono ?_
    rintro e w' ⟨rfl, rfl⟩
    go_wp2_with fail
    go_ret
    exact ⟨by rw [HE.out]; rfl, rfl⟩
  · have e1 : decide (x < y) = false := by simpa using h
    by_cases h2 : y < x
    · have HE := Lib.hid (show cmpI x y = 1 by unfold cmpI; rw [if_neg h, if_pos h2])
      have e2 : decide (y < x) = true := by simpa using h2
      clear h h2
      go_enter Try.func86, Try.ntmps86
      go_wp2_with fail
      refine (HN.out x _).mono ?_
      rintro e w' ⟨rfl, rfl⟩
      go_wp2_with fail
      refine (HN.out y _).mono ?_
      rintro e w' ⟨rfl, rfl⟩
      go_wp2_with fail
      go_ret
      exact ⟨by rw [HE.out]; rfl, rfl⟩
    · have HE := Lib.hid (show cmpI x y = 0 by unfold cmpI; rw [if_neg h, if_neg h2])
      have e2 : decide (y < x) = false := by simpa using h2
      clear h h2
      go_enter Try.func86, Try.ntmps86
      go_wp2_with fail
      refine (HN.out x _).mono ?_
      rintro e w' ⟨rfl, rfl⟩
      go_wp2_with fail
      refine (HN.out y _).mono ?_
      rintro e w' ⟨rfl, rfl⟩
      go_wp2_with fail
      go_ret
      exact ⟨by rw [HE.out]; rfl, rfl⟩
/-- A number's key: the length at its index. -/
def keyL (L : List Int) (i : Int) : Int := L.getD i.toNat 0
set_option maxRecDepth 4000 in
set_option maxHeartbeats 1000000 in
theorem byLen_any (L : List Int) (A : Option Addr) (c bx : Nat) (i j : Nat) (w : World) (hb : w.cell? ⟨bx, 0, none⟩ = some (.slice A L.length c)) (hr : Rd w w.heap.size A (ints L)) (hi : i < L.length) (hj : j < L.length) :
    Calls Try.prog 100 #[.int .i64 i, .int .i64 j, .pointer (some ⟨bx, 0, none⟩)] w fun e w' => e = .returned (.int .i64 (cmpI (keyL L i) (keyL L j))) ∧ ∃ m, w' = w.drewN m := by
  obtain ⟨b, o, x, rfl, hx, hc⟩ := hr.int i hi
  obtain ⟨b', o', y, hbo, hy, hc'⟩ := hr.int j hj
  cases hbo
  have HX := Lib.hid (show keyL L i = x by unfold keyL; rw [Int.toNat_natCast, List.getD_eq_getElem?_getD, hx.out]; rfl)
  have HY := Lib.hid (show keyL L j = y by unfold keyL; rw [Int.toNat_natCast, List.getD_eq_getElem?_getD, hy.out]; rfl)
  have h0 : (0 : Int) ≤ (i : Int) := by omega
  have h1 : (i : Int) < (L.length : Int) := by omega
  have h2 : (0 : Int) ≤ (j : Int) := by omega
  have h3 : (j : Int) < (L.length : Int) := by omega
  have HC := Lib.hid (Compare_any x y)
  clear hr hx hy
  go_enter Try.func100, Try.ntmps100
  go_wp2_with fail
  go_quiet ((go_at_call 86; exact qs0 (HC.out _)))
  go_wp2_with fail
  go_ret
  exact ⟨by rw [HX.out, HY.out]; rfl, _, rfl⟩
end Go.Proofs.Ytjongjndoaojnaa

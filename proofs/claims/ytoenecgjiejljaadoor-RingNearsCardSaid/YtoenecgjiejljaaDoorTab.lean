/-
  The walks of the digit functions without slices: ring.isDigit, Times, undo, Undo, turn, Turn and the reference's. Conditions: the two tables lie in their blocks ('TabsR').
-/
import Derived.Test.YtoenecgjiejljaaDoorProg
import Derived.Test.YtoenecgjiejljaaDoorDig
import Derived.WalkKit
import Derived.WalkLawsBesides
import Derived.WalkSpells
import Derived.Deep.QuietTactic
import Derived.BigQuiet
import Derived.Handy
import Derived.Lib.Hide
namespace Go.Proofs.YtoenecgjiejljaaDoor
open Go.RowKit
set_option linter.unusedVariables false

/-- The tables of package ring, as the walks read them. -/
structure TabsR (w : World) : Prop where
  prod : ∀ x y : Int, 0 ≤ x → x ≤ 9 → 0 ≤ y → y ≤ 9 → w.cell? ⟨0, x.toNat * 10 + y.toNat, none⟩ = some (.int .i64 (mulD x y))
  turn : ∀ x : Int, 0 ≤ x → x ≤ 9 → w.cell? ⟨1, x.toNat, none⟩ = some (.int .i64 (trnD x))
  size : 2 ≤ w.heap.size

theorem TabsR.below {B : Nat} {w w' : World} (h : TabsR w) (hb : Below B w w') (h2 : 2 ≤ B) : TabsR w' :=
  ⟨fun x y a b c d => (hb.cell (p := ⟨0, _, none⟩) (by show 0 < B; omega)).trans (h.prod x y a b c d),
   fun x a b => (hb.cell (p := ⟨1, _, none⟩) (by show 1 < B; omega)).trans (h.turn x a b), Nat.le_trans h.size hb.size⟩
theorem TabsR.below' {w w' : World} (h : TabsR w) (hb : Below w.heap.size w w') : TabsR w' := h.below hb h.size

theorem isDigit_yes (x : Int) (w : World) (h : Dig x) :
    Calls Tryd.prog 104 #[.int .i64 x] w fun e w' => e = .returned (.bool true) ∧ w = w' := by
  obtain ⟨h0, h9⟩ := h
  go_enter Tryd.func104, Tryd.ntmps104
  go_wp2
  go_ret
  exact ⟨rfl, rfl⟩
theorem isDigit_no (x : Int) (w : World) (h : isDig x = false) :
    Calls Tryd.prog 104 #[.int .i64 x] w fun e w' => e = .returned (.bool false) ∧ w = w' := by
  rcases isDig_not.1 h with h' | h'
  · clear h
    go_enter Tryd.func104, Tryd.ntmps104
    go_wp2
    go_ret
    exact ⟨rfl, rfl⟩
  · clear h
    have hd : decide (x ≤ 9) = false := by simp; omega
    go_enter Tryd.func104, Tryd.ntmps104
    go_wp2
    go_ret
    exact ⟨by rw [← hd]; rfl, rfl⟩
theorem Times_ok (x y : Int) (w : World) (hx : Dig x) (hy : Dig y) (ht : TabsR w) :
    Calls Tryd.prog 49 #[.int .i64 x, .int .i64 y] w fun e w' => e = .returned (.tuple #[.int .i64 (mulD x y), .int .i64 0]) ∧ w = w' := by
  have hc := ht.prod x y hx.1 hx.2 hy.1 hy.2
  have Hx := Lib.hid hx
  have Hy := Lib.hid hy
  obtain ⟨h0, h9⟩ := hx
  obtain ⟨g0, g9⟩ := hy
  clear ht
  go_enter Tryd.func49, Tryd.ntmps49
  go_wp2_with fail
  refine (isDigit_yes _ _ Hx.out).mono ?_
  rintro e w' ⟨rfl, rfl⟩
  go_wp2_with fail
  refine (isDigit_yes _ _ Hy.out).mono ?_
  rintro e w' ⟨rfl, rfl⟩
  go_wp2_with fail
  go_ret2
  exact ⟨rfl, rfl⟩
theorem Times_bad (x y : Int) (w : World) (h : isDig x = false ∨ isDig y = false) :
    Calls Tryd.prog 49 #[.int .i64 x, .int .i64 y] w fun e w' => e = .returned (.tuple #[.int .i64 0, .int .i64 1]) ∧ w = w' := by
  by_cases hx : isDig x = false
  · have Hx := Lib.hid hx
    clear h hx
    go_enter Tryd.func49, Tryd.ntmps49
    go_wp2_with (go_at_call 104; refine (isDigit_no _ _ Hx.out).mono ?_; rintro e w' ⟨rfl, rfl⟩)
    go_ret2
    exact ⟨rfl, rfl⟩
  · have Hx := Lib.hid (isDig_iff.1 (by simpa using hx))
    have Hy := Lib.hid (h.resolve_left hx)
    clear h hx
    go_enter Tryd.func49, Tryd.ntmps49
    go_wp2_with fail
    refine (isDigit_yes _ _ Hx.out).mono ?_
    rintro e w' ⟨rfl, rfl⟩
    go_wp2_with fail
    refine (isDigit_no _ _ Hy.out).mono ?_
    rintro e w' ⟨rfl, rfl⟩
    go_wp2_with fail
    go_ret2
    exact ⟨rfl, rfl⟩
theorem inv_lt {x y : Int} (hx : Dig x) (h0 : 0 ≤ y) (h : y < invD x) : mulD x y ≠ 0 := by
  have hi := dig_inv hx
  intro e
  have := (mul_eq_zero hx (y := y) ⟨h0, by have := hi.2; omega⟩).1 e
  omega
theorem undo_ok (x : Int) (w : World) (hx : Dig x) (ht : TabsR w) :
    Calls Tryd.prog 115 #[.int .i64 x] w fun e w' => e = .returned (.int .i64 (invD x)) ∧ w = w' := by
  have Hx := Lib.hid hx
  have HT := Lib.hid ht
  obtain ⟨h0, h9⟩ := hx
  clear ht
  obtain ⟨i0, i9⟩ := dig_inv Hx.out
  go_enter Tryd.func115, Tryd.ntmps115
  go_wp2
  go_loop [3] (fun y => ∃ k : Int, 0 ≤ k ∧ k ≤ invD x ∧ y = .int .i64 k) (fun y => (invD x - intOf y).toNat)
  case atStart => exact ⟨0, by omega, by omega, rfl⟩
  case round =>
    obtain ⟨k, hk0, hk, rfl⟩ := hrel
    have hc := HT.out.prod x k h0 h9 hk0 (by omega)
    by_cases hlt : k < invD x
    · have hne : (mulD x k == 0) = false := by simpa using inv_lt Hx.out hk0 hlt
      have hne' : (mulD x k != 0) = true := by simpa using inv_lt Hx.out hk0 hlt
      go_wp2
      go_round
      case rel => exact ⟨k + 1, by omega, by omega, rfl⟩
      case measure => simp [intOf]; omega
    · obtain rfl : k = invD x := by omega
      have hz : mulD x (invD x) = 0 := mul_inv Hx.out
      rw [hz] at hc
      clear hz
      go_wp2
      go_ret
      exact ⟨rfl, rfl⟩
end Go.Proofs.YtoenecgjiejljaaDoor

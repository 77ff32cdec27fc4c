/-
  Levels, the chance of at least so many, equal lists: the walks of isLevel of both sides, atLeast, SameInts. Condition: numbers of birds, where said.
-/
import Derived.Test.YtgpghnhpbjnhkaaDoorCc7
namespace Go.Proofs.YtgpghnhpbjnhkaaDoor
open Go.RowKit
set_option linter.unusedVariables false

theorem eqI_next {a b : List Int} {k : Nat} {x y : Int} (hx : a[k]? = some x) (hy : b[k]? = some y) (h : a.take k = b.take k) (he : x = y) : a.take (k + 1) = b.take (k + 1) := by
  rw [List.take_add_one, List.take_add_one, hx, hy, h, he]
theorem eqI_bad {a b : List Int} {k : Nat} {x y : Int} (hx : a[k]? = some x) (hy : b[k]? = some y) (he : ¬ x = y) : decide (a = b) = false := decide_eq_false fun h => he (by
  rw [h, hy] at hx
  injection hx with hx
  exact hx.symm)
set_option maxRecDepth 4000 in
set_option maxHeartbeats 1000000 in
theorem SameInts_any (A A' : Option Addr) (c c' : Nat) (a b : List Int) (w : World) (hr : Rd w w.heap.size A (ints a)) (hr' : Rd w w.heap.size A' (ints b)) (hl : a.length ≤ 9223372036854775807) (hl' : b.length ≤ 9223372036854775807) :
    Calls Tryd.prog 13 #[.slice A a.length c, .slice A' b.length c'] w fun e w' => e = .returned (.bool (decide (a = b))) ∧ ∃ m, w' = w.drewN m := by
  have HR := Lib.hid hr
  have HR' := Lib.hid hr'
  clear hr hr'
  by_cases hab : a.length = b.length
  · have e1 : (((a.length : Nat) : Int) != ((b.length : Nat) : Int)) = false := by rw [hab]; simp
    have e2 : ((a.length : Nat) != b.length) = false := by rw [hab]; simp
    have HAB := Lib.hid hab
    clear hab
    go_enter Tryd.func13, Tryd.ntmps13
    go_wp2_with fail
    go_loopw [5] (fun i wr => ∃ k : Nat, k ≤ a.length ∧ i = .int .i64 k ∧ a.take k = b.take k ∧ ∃ m, wr = w.drewN m) (fun i _ => a.length - (intOf i).toNat)
    case atStart => exact ⟨0, by omega, rfl, rfl, 0, rfl⟩
    case round =>
      obtain ⟨k, hk, rfl, hall, m, rfl⟩ := hrel
      have HA := Lib.hid hall
      clear hall
      by_cases hlt : k < a.length
      · have hlt' : k < b.length := by have := HAB.out; omega
        obtain ⟨b1, o1, x, hA1, hx, hc⟩ := HR.out.int k hlt
        obtain ⟨b2, o2, y, hA2, hy, hc'⟩ := HR'.out.int k hlt'
        have HX1 := Lib.hid hA1
        have HX2 := Lib.hid hA2
        subst hA1 hA2
        have b0 : (0 : Int) ≤ (k : Int) := by omega
        have b1' : (k : Int) < (a.length : Int) := by omega
        have b2' : (k : Int) < (b.length : Int) := by omega
        by_cases he : x = y
        · have HX := Lib.hid (eqI_next hx.out hy.out HA.out he)
          have e4 : (x != y) = false := by simpa using he
          clear he
          go_wp2_with fail
          go_quiet (fail)
          go_wp2_with fail
          go_roundw
          case rel => exact ⟨k + 1, by omega, by go_num, HX.out, _, rfl⟩
          case measure => simp [intOf]; omega
        · have HX := Lib.hid (eqI_bad hx.out hy.out he)
          have e4 : (x != y) = true := by simpa using he
          clear he
          go_wp2_with fail
          go_quiet (fail)
          go_wp2_with fail
          go_ret
          exact ⟨by rw [HX.out]; rfl, _, World.drewN_drewN _ _ _⟩
      · have hks : k = a.length := by omega
        have HX := Lib.hid (show decide (a = b) = true by
          have h := HA.out
          rw [hks, List.take_length, HAB.out, List.take_length] at h
          exact decide_eq_true h)
        subst hks
        go_wp2_with fail
        go_ret
        exact ⟨by rw [HX.out]; rfl, _, rfl⟩
  · have e1 : (((a.length : Nat) : Int) != ((b.length : Nat) : Int)) = true := by simp; omega
    have e2 : ((a.length : Nat) != b.length) = true := by simpa using hab
    have HX := Lib.hid (show decide (a = b) = false from decide_eq_false fun h => hab (by rw [h]))
    clear hab
    go_enter Tryd.func13, Tryd.ntmps13
    go_wp2_with fail
    go_ret
    exact ⟨by rw [HX.out]; rfl, 0, rfl⟩

/-- A level. -/
def lvB (n d : Int) : Bool := (decide (1 ≤ d) && decide (d ≤ 1000)) && ((decide (0 ≤ n) && decide (n ≤ d)) && (Nat.gcd n.toNat d.toNat == 1))
theorem gcd_beq (g : Nat) : ((g : Int) == 1) = (g == 1) := by
  by_cases h : g = 1
  · subst h; rfl
  · rw [beq_eq_false_iff_ne.2 (show (g : Int) ≠ 1 by omega), beq_eq_false_iff_ne.2 h]
end Go.Proofs.YtgpghnhpbjnhkaaDoor

/-
  Games: the walks of reached, won of the reference; of numbered, areRanks, isMoves, isPlan, isPlace of package lure. Conditions: the game is one and can be read.
-/
import Derived.Test.YtldepjpalhmpnaaLu6
namespace Go.Proofs.Ytldepjpalhmpnaa
open Go.RowKit
set_option linter.unusedVariables false

theorem lv_next (G : Gm) (goal k : Nat) : lv G goal (k + 1) = goal ||| fcN G 0 (lv G goal k) := rfl
set_option maxRecDepth 4000 in
theorem numbered_any (A : Option Addr) (c : Nat) (R : List Int) (m : Int) (w : World) (hr : Rd w w.heap.size A (ints R)) (hn : R.length ≤ 16) :
    Calls Try.prog 31 #[.slice A R.length c, .int .i64 m] w fun e w' => e = .returned (.int .u32 (numN R m : Nat)) ∧ w = w' := by
  have HR := Lib.hid hr
  clear hr
  have HY := Lib.hid (fun k (h : k < 31) => or_u32 (fun p => inR m (R.getD p (-1))) h)
  have HN := Lib.hid (fun k h => bitK_no (f := fun p => inR m (R.getD p (-1))) (k := k) h)
  have HX := Lib.hid (fun k d (h : R[k]? = some d) => (show inR m (R.getD k (-1)) = inR m d by rw [List.getD_eq_getElem?_getD, h]; rfl))
  have HE := Lib.hid (show numN R m = bitK (fun p => inR m (R.getD p (-1))) R.length from rfl)
  have HBl := Lib.hid (fun k (h : k ≤ 31) => bitK_32 (fun p => inR m (R.getD p (-1))) h)
  go_enter Try.func31, Try.ntmps31
  go_wp2
  go_loop [5, 10] (fun v i => ∃ k : Nat, k ≤ R.length ∧ i = .int .i64 k ∧ v = .int .u32 (bitK (fun p => inR m (R.getD p (-1))) k : Nat)) (fun _ i => R.length - (intOf i).toNat)
  case atStart => exact ⟨0, by omega, rfl, rfl⟩
  case round =>
    obtain ⟨k, hk, rfl, rfl⟩ := hrel
    by_cases hlt : k < R.length
    · obtain ⟨b, o, d, rfl, hd, hc⟩ := HR.out.int k hlt
      have HXk := HX.out k d hd.out
      have HSh := Lib.hid (shl_u32 (k := k) (by omega))
      have HYk := Lib.hid (HY.out k (by omega))
      have HNk := Lib.hid (HN.out k)
      have hbl := HBl.out k (by omega)
      have b0 : (0 : Int) ≤ (k : Int) := by omega
      have b1 : (k : Int) < 32 := by omega
      generalize bitK (fun p => inR m (R.getD p (-1))) k = F at *
      by_cases h0 : 0 ≤ d
      · have e0 : decide (0 ≤ d) = true := by simpa using h0
        by_cases h1 : d ≤ m
        · have e1 : decide (d ≤ m) = true := by simpa using h1
          have HE := Lib.hid (HYk.out (by rw [HXk]; exact inR_iff.2 ⟨h0, h1⟩))
          clear HXk h0 h1
          go_wp2_with fail
          go_round
          case rel => exact ⟨k + 1, by omega, by go_num, by rw [HSh.out, HE.out]⟩
          case measure => simp [intOf]; omega
        · have e1 : decide (d ≤ m) = false := by simpa using h1
          have HE := Lib.hid (HNk.out (by rw [HXk]; unfold inR; rw [e1, Bool.and_false]))
          clear HXk h0 h1
          go_wp2_with fail
          go_round
          case rel => exact ⟨k + 1, by omega, by go_num, by rw [HE.out]⟩
          case measure => simp [intOf]; omega
      · have e0 : decide (0 ≤ d) = false := by simpa using h0
        have HE := Lib.hid (HNk.out (by rw [HXk]; unfold inR; rw [e0]; rfl))
        clear HXk h0
        go_wp2_with fail
        go_round
        case rel => exact ⟨k + 1, by omega, by go_num, by rw [HE.out]⟩
        case measure => simp [intOf]; omega
    · have hks : k = R.length := by omega
      subst hks
      go_wp2_with fail
      go_ret
      exact ⟨by rw [HE.out]; rfl, rfl⟩
end Go.Proofs.Ytldepjpalhmpnaa

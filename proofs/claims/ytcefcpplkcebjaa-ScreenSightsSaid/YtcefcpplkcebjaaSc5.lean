/-
  The walk of the reference's Validate; of checkSight, sees, Sees of package screen. No condition.
-/
import Derived.Test.YtcefcpplkcebjaaSc4
namespace Go.Proofs.Ytcefcpplkcebjaa
open Go.RowKit
set_option linter.unusedVariables false

set_option maxHeartbeats 1000000 in
theorem rValidate_any (A : Option Addr) (c : Nat) (l : List Sg) (w : World) (hr : Rd w w.heap.size A (l.flatMap Sg.cells)) (hn : l.length ≤ 9223372036854775807) :
    Calls Try.prog 24 #[.slice A l.length c] w fun e w' => e = .returned (.int .i64 (valE l)) ∧ Below w.heap.size w w' := by
  have HR := Lib.hid hr
  clear hr
  by_cases h8 : 12 < l.length
  · have hE : valE l = 3 := if_pos h8
    rw [hE]
    have h8' : (12 : Int) < (l.length : Int) := by omega
    clear hE h8
    go_enter Try.func24, Try.ntmps24
    go_wp2
    go_ret
    exact ⟨rfl, Below.refl _ _⟩
  · have H8 := Lib.hid h8
    have h8' : ¬ (12 : Int) < (l.length : Int) := by omega
    go_enter Try.func24, Try.ntmps24
    go_wp2
    clear h8'
    go_loopw [3] (fun i wr => ∃ k : Nat, k ≤ l.length ∧ i = .int .i64 k ∧ (∀ (j : Nat) s, j < k → l[j]? = some s → okS s = true) ∧ Below w.heap.size w wr) (fun i _ => l.length - (intOf i).toNat)
    case atStart => exact ⟨0, by omega, rfl, fun j x hj => by omega, Below.refl _ _⟩
    case round =>
      obtain ⟨k, hk, rfl, hall, hb⟩ := hrel
      have HA := Lib.hid hall
      have B := Lib.hid hb
      clear hall hb
      by_cases hlt : k < l.length
      · obtain ⟨b, o, ⟨⟨x0, y0⟩, ⟨x1, y1⟩⟩, rfl, hx, c0, c1, c2, c3⟩ := (HR.out.below B.out (Nat.le_refl _)).sg k hlt
        simp only at c0 c1 c2 c3
        have H1 := Lib.hid (fun w => IsPoint_any ⟨x0, y0⟩ w)
        have H2 := Lib.hid (fun w => IsPoint_any ⟨x1, y1⟩ w)
        have HE := Lib.hid (fun W => eq_in ⟨x0, y0⟩ ⟨x1, y1⟩ W)
        have HE2 := Lib.hid (fun W => eq_pts ⟨x0, y0⟩ ⟨x1, y1⟩ W)
        have HO := Lib.hid (show okS ⟨⟨x0, y0⟩, ⟨x1, y1⟩⟩ = ((okP ⟨x0, y0⟩ && okP ⟨x1, y1⟩) && !eqP ⟨x0, y0⟩ ⟨x1, y1⟩) from rfl)
        unfold Pt.v at *
        simp only at H1 H2 HE HE2
        generalize okP ⟨x0, y0⟩ = p1 at *
        generalize okP ⟨x1, y1⟩ = p2 at *
        generalize eqP ⟨x0, y0⟩ ⟨x1, y1⟩ = q at *
        have g0 := fun d os => cell_regrown c0 d os
        have g1 := fun d os => cell_regrown c1 d os
        have g2 := fun d os => cell_regrown c2 d os
        have g3 := fun d os => cell_regrown c3 d os
        have e3 := guard_pts
        have e1 := HE.out
        have e2 := HE2.out
        cases p1
        · go_wp2_with fail
          refine wp_region_quiet_below (by kernel_rfl) (by kernel_rfl) ?_
          repeat (go_big_quiet_step (first | with_reducible exact Calls.regrown_of (H1.out _) | with_reducible exact Calls.regrown_of (H2.out _)))
          refine wpQuiet_nil ?_
          intro _ hw'
          obtain ⟨⟨dq, osq⟩, hw''⟩ := hw'
          subst hw''
          go_wp2_with fail
          go_ret
          exact ⟨by rw [valE_bad H8.out hx.out HO.out]; rfl, B.out.trans ((below_regrown wr dq osq).mono B.out.size)⟩
        cases p2
        · go_wp2_with fail
          refine wp_region_quiet_below (by kernel_rfl) (by kernel_rfl) ?_
          repeat (go_big_quiet_step (first | with_reducible exact Calls.regrown_of (H1.out _) | with_reducible exact Calls.regrown_of (H2.out _)))
          refine wpQuiet_nil ?_
          intro _ hw'
          obtain ⟨⟨dq, osq⟩, hw''⟩ := hw'
          subst hw''
          go_wp2_with fail
          go_ret
          exact ⟨by rw [valE_bad H8.out hx.out HO.out]; rfl, B.out.trans ((below_regrown wr dq osq).mono B.out.size)⟩
        cases q
        · go_wp2_with fail
          refine wp_region_quiet_below (by kernel_rfl) (by kernel_rfl) ?_
          repeat (go_big_quiet_step (first | with_reducible exact Calls.regrown_of (H1.out _) | with_reducible exact Calls.regrown_of (H2.out _)))
          refine wpQuiet_nil ?_
          intro _ hw'
          obtain ⟨⟨dq, osq⟩, hw''⟩ := hw'
          subst hw''
          go_wp2_with fail
          go_roundw
          case rel => exact ⟨k + 1, by omega, by go_num, fun j s hj hs => by
            rcases Nat.lt_or_ge j k with h | h
            · exact HA.out j s h hs
            · obtain rfl : j = k := by omega
              rw [hx.out] at hs
              cases hs
              exact HO.out, B.out.trans ((below_regrown wr dq osq).mono B.out.size)⟩
          case measure => simp [intOf]; omega
        · go_wp2_with fail
          refine wp_region_quiet_below (by kernel_rfl) (by kernel_rfl) ?_
          repeat (go_big_quiet_step (first | with_reducible exact Calls.regrown_of (H1.out _) | with_reducible exact Calls.regrown_of (H2.out _)))
          refine wpQuiet_nil ?_
          intro _ hw'
          obtain ⟨⟨dq, osq⟩, hw''⟩ := hw'
          subst hw''
          go_wp2_with fail
          go_ret
          exact ⟨by rw [valE_bad H8.out hx.out HO.out]; rfl, B.out.trans ((below_regrown wr dq osq).mono B.out.size)⟩
      · have hks : k = l.length := by omega
        have HK := Lib.hid hks
        clear hks
        go_wp2_with fail
        go_ret
        exact ⟨by rw [valE_ok H8.out (by rw [← HK.out]; exact HA.out)]; rfl, B.out⟩
end Go.Proofs.Ytcefcpplkcebjaa

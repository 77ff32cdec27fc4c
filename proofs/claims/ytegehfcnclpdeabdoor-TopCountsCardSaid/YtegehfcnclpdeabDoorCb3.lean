/-
  The method ways, ways of the reference, choices, fits, check of both sides: the walks. Condition: all numbers are numbers of birds, where said.
-/
import Derived.Test.YtegehfcnclpdeabDoorCb2
namespace Go.Proofs.YtegehfcnclpdeabDoor
open Go.RowKit
set_option linter.unusedVariables false

theorem wrap_nn {x : Int} (h0 : 0 ≤ x) (h1 : x ≤ 9223372036854775807) : IntKind.i64.wrap x = x := by rw [IntKind.wrap_i64]; omega
set_option maxRecDepth 4000 in
set_option maxHeartbeats 1000000 in
theorem ways_any (b m c a : Nat) (hb : b ≤ 60) (hm : m ≤ 60) (hc : c ≤ 60) (ha : a ≤ 60) (w : World) :
    Calls Tryd.prog 18 #[.agg (rc b m c a)] w fun e w' => e = .returned (.int .i64 (wN b m c a : Nat)) ∧ Below w.heap.size w w' := by
  obtain ⟨c0, c1, c2, c3, hb0⟩ := box_rc w b m c a 47
  have HB0 := Lib.hid hb0
  have W1 := Lib.hid (show IntKind.i64.wrap ((b : Int) - m) = (b : Int) - m by rw [IntKind.wrap_i64]; omega)
  have W2 := Lib.hid (show IntKind.i64.wrap ((c : Int) - a) = (c : Int) - a by rw [IntKind.wrap_i64]; omega)
  have HE := Lib.hid (wI_eq b m c a)
  have hle := wI_le (b := b) (m := m) (c := c) (a := a) hb
  have HM := Lib.hid (show ((bI (m : Int) (a : Int) * bI ((b : Int) - (m : Int)) ((c : Int) - (a : Int)) : Nat) : Int) = (bI (m : Int) (a : Int) : Int) * (bI ((b : Int) - (m : Int)) ((c : Int) - (a : Int)) : Int) from Int.natCast_mul _ _)
  have b1 : 0 ≤ (bI (m : Int) (a : Int) : Int) * (bI ((b : Int) - (m : Int)) ((c : Int) - (a : Int)) : Int) := by rw [← HM.out]; omega
  have b2 : (bI (m : Int) (a : Int) : Int) * (bI ((b : Int) - (m : Int)) ((c : Int) - (a : Int)) : Int) ≤ 118264581564861424 := by rw [← HM.out]; omega
  have W3 := Lib.hid (wrap_nn b1 (by omega))
  clear hb0 hle
  go_enter Tryd.func18, Tryd.ntmps18
  go_wp2_with fail
  generalize w.alloc (Obj.cells (rc (b : Int) m c a) 47) = W at *
  go_quiet ((go_at_call 13; (first | rw [W1.out, W2.out] | skip); exact qs0 (binomial_any _ _ (by omega) (by omega) _)))
  go_wp2_with fail
  go_ret
  exact ⟨by rw [← HE.out, HM.out]; exact congrArg (fun z => Ending.returned (Value.int .i64 z)) W3.out, bdN HB0.out _⟩
theorem choicesI_any (b m c : Nat) (a : Int) (hb : b ≤ 60) (w : World) :
    Calls Tryd.prog 36 #[.agg (rc b m c a)] w fun e w' => e = .returned (.int .i64 (ch b c : Nat)) ∧ Below w.heap.size w w' := by
  obtain ⟨c0, c1, c2, c3, hb0⟩ := box_rc w (b : Int) m c a 47
  have HB0 := Lib.hid hb0
  have HX := Lib.hid (fun w => binomial_any b c (by omega) (by omega) w)
  rw [bI_nat] at HX
  clear hb0
  go_enter Tryd.func36, Tryd.ntmps36
  go_wp2_with fail
  refine (HX.out _).mono ?_
  rintro e w' ⟨rfl, rfl⟩
  go_wp2_with fail
  go_ret
  exact ⟨rfl, HB0.out⟩
theorem choices_any (b m c a : Nat) (hb : b ≤ 60) (w : World) :
    Calls Tryd.prog 36 #[.agg (rc b m c a)] w fun e w' => e = .returned (.int .i64 (ch b c : Nat)) ∧ Below w.heap.size w w' := choicesI_any b m c a hb w
def fitB (m c a : Int) : Bool := decide (a ≤ m) && decide (a ≤ c)
theorem fits_any (b m c a : Int) (w : World) :
    Calls Tryd.prog 14 #[.agg (rc b m c a)] w fun e w' => e = .returned (.bool (fitB m c a)) ∧ Below w.heap.size w w' := by
  obtain ⟨c0, c1, c2, c3, hb0⟩ := box_rc w b m c a 47
  have HB0 := Lib.hid hb0
  clear hb0
  unfold fitB
  cases e1 : decide (a ≤ m)
  · go_enter Tryd.func14, Tryd.ntmps14
    go_wp2_with fail
    go_ret
    exact ⟨rfl, HB0.out⟩
  · go_enter Tryd.func14, Tryd.ntmps14
    go_wp2_with fail
    go_ret
    exact ⟨rfl, HB0.out⟩
/-- The first error of a recapture whose chance is asked for. -/
def chE (b m c a : Int) : Int := if (allB [b, m, c, a]) = true then (if b < m ∨ b < c then 8 else 0) else 1
set_option maxRecDepth 4000 in
set_option maxHeartbeats 1000000 in
theorem check_any (b m c a : Int) (w : World) :
    Calls Tryd.prog 20 #[.agg (rc b m c a)] w fun e w' => e = .returned (.int .i64 (chE b m c a)) ∧ Below w.heap.size w w' := by
  obtain ⟨c0, c1, c2, c3, hb0⟩ := box_rc w b m c a 47
  have hs : (w.alloc (.cells (rc b m c a) 47)).heap.size = w.heap.size + 1 := by simp
  have HA := Lib.hid (fun w => nums4 b m c a w)
  have HE := Lib.hid (show chE b m c a = if (allB [b, m, c, a]) = true then (if b < m ∨ b < c then 8 else 0) else 1 from rfl)
  generalize allB [b, m, c, a] = v at *
  cases v
  · have HF := Lib.hid (show chE b m c a = 1 from HE.out)
    go_enter Tryd.func20, Tryd.ntmps20
    go_wp2_with fail
    generalize w.alloc (Obj.cells (rc b m c a) 47) = W at *
    have HAW := HA.out W
    rw [hs] at HAW
    refine HAW.mono ?_
    rintro e w' ⟨rfl, hb⟩
    rw [← hs] at hb
    have BA := Lib.hid (hb0.trans (hb.mono hb0.size))
    clear hb hb0 hs
    go_wp2_with fail
    go_ret
    exact ⟨by rw [HF.out]; rfl, BA.out⟩
  · cases e1 : decide (b < m)
    · cases e2 : decide (b < c)
      · have HF := Lib.hid (show chE b m c a = 0 from (HE.out.trans (if_pos rfl)).trans (if_neg (by have := of_decide_eq_false e1; have := of_decide_eq_false e2; omega)))
        go_enter Tryd.func20, Tryd.ntmps20
        go_wp2_with fail
        generalize w.alloc (Obj.cells (rc b m c a) 47) = W at *
        have HAW := HA.out W
        rw [hs] at HAW
        refine HAW.mono ?_
        rintro e w' ⟨rfl, hb⟩
        rw [← hs] at hb
        have BA := Lib.hid (hb0.trans (hb.mono hb0.size))
        have k0 := cell_keep c0 hb (by omega)
        have k1 := cell_keep c1 hb (by omega)
        have k2 := cell_keep c2 hb (by omega)
        clear hb hb0 hs c0 c1 c2 c3
        go_wp2_with fail
        go_ret
        exact ⟨by rw [HF.out]; rfl, BA.out⟩
      · have HF := Lib.hid (show chE b m c a = 8 from (HE.out.trans (if_pos rfl)).trans (if_pos (.inr (of_decide_eq_true e2))))
        go_enter Tryd.func20, Tryd.ntmps20
        go_wp2_with fail
        generalize w.alloc (Obj.cells (rc b m c a) 47) = W at *
        have HAW := HA.out W
        rw [hs] at HAW
        refine HAW.mono ?_
        rintro e w' ⟨rfl, hb⟩
        rw [← hs] at hb
        have BA := Lib.hid (hb0.trans (hb.mono hb0.size))
        have k0 := cell_keep c0 hb (by omega)
        have k1 := cell_keep c1 hb (by omega)
        have k2 := cell_keep c2 hb (by omega)
        clear hb hb0 hs c0 c1 c2 c3
        go_wp2_with fail
        go_ret
        exact ⟨by rw [HF.out]; rfl, BA.out⟩
    · have HF := Lib.hid (show chE b m c a = 8 from (HE.out.trans (if_pos rfl)).trans (if_pos (.inl (of_decide_eq_true e1))))
      go_enter Tryd.func20, Tryd.ntmps20
      go_wp2_with fail
      generalize w.alloc (Obj.cells (rc b m c a) 47) = W at *
      have HAW := HA.out W
      rw [hs] at HAW
      refine HAW.mono ?_
      rintro e w' ⟨rfl, hb⟩
      rw [← hs] at hb
      have BA := Lib.hid (hb0.trans (hb.mono hb0.size))
      have k0 := cell_keep c0 hb (by omega)
      have k1 := cell_keep c1 hb (by omega)
      have k2 := cell_keep c2 hb (by omega)
      clear hb hb0 hs c0 c1 c2 c3
      go_wp2_with fail
      go_ret
      exact ⟨by rw [HF.out]; rfl, BA.out⟩
end Go.Proofs.YtegehfcnclpdeabDoor

/-
  The method ways, ways of the reference, choices, fits, check of both sides: the walks. Condition: all numbers are numbers of birds, where said.
-/
import Derived.Test.YtgpghnhpbjnhkaaCb2
namespace Go.Proofs.Ytgpghnhpbjnhkaa
open Go.RowKit
set_option linter.unusedVariables false

theorem wrap_nn {x : Int} (h0 : 0 ≤ x) (h1 : x ≤ 9223372036854775807) : IntKind.i64.wrap x = x := by rw [IntKind.wrap_i64]; omega
set_option maxRecDepth 4000 in
set_option maxHeartbeats 1000000 in
theorem ways_any (b m c a : Nat) (hb : b ≤ 60) (hm : m ≤ 60) (hc : c ≤ 60) (ha : a ≤ 60) (w : World) :
    Calls Try.prog 42 #[.agg (rc b m c a)] w fun e w' => e = .returned (.int .i64 (wN b m c a : Nat)) ∧ Below w.heap.size w w' := by
  obtain ⟨c0, c1, c2, c3, hb0⟩ := box_rc w b m c a 51
  have HB0 := Lib.hid hb0
  have W1 := Lib.hid (show IntKind.i64.wrap ((b : Int) - m) = (b : Int) - m by rw [IntKind.wrap_i64]; omega)
  have W2 := Lib.hid (show IntKind.i64.wrap ((c : Int) - a) = (c : Int) - a by rw [IntKind.wrap_i64]; omega)
  have HE := Lib.hid (wI_eq b m c a)
  have hle := wI_le (b := b) (m := m) (c := c) (a := a) hb
  have HM := Lib.hid (show ((bI (m : Int) (a : Int) * bI ((b : Int) - (m : Int)) ((c : Int) - (a : Int)) : Nat) : Int) = (bI (m : Int) (a : Int) : Int) * (bI ((b : Int) - (m : Int)) ((c : Int) - (a : Int)) : Int) from Int.natCast_mul _ _)
  have b1 : 0 ≤ (bI (m : Int) (a : Int) : Int) * (bI ((b : Int) - (m : Int)) ((c : Int) - (a : Int)) : Int) := by rw [← HM.out]; omega
  have b2 : (bI (m : Int) (a : Int) : Int) * (bI ((b : Int) - (m : Int)) ((c : Int) - (a : Int)) : Int) ≤ 118264581564861424 := by rw [← HM.out]; omega
  have W3 := Lib.hid (wrap_nn b1 (by omega))
  clear hb0 hle
  go_enter Try.func42, Try.ntmps42
  go_wp2_with fail
  generalize w.alloc (Obj.cells (rc (b : Int) m c a) 51) = W at *
  go_quiet ((go_at_call 39; (first | rw [W1.out, W2.out] | skip); exact qs0 (binomial_any _ _ (by omega) (by omega) _)))
  go_wp2_with fail
  go_ret
  exact ⟨by rw [← HE.out, HM.out]; exact congrArg (fun z => Ending.returned (Value.int .i64 z)) W3.out, bdN HB0.out _⟩
theorem choicesI_any (b m c : Nat) (a : Int) (hb : b ≤ 60) (w : World) :
    Calls Try.prog 65 #[.agg (rc b m c a)] w fun e w' => e = .returned (.int .i64 (ch b c : Nat)) ∧ Below w.heap.size w w' := by
  obtain ⟨c0, c1, c2, c3, hb0⟩ := box_rc w (b : Int) m c a 51
  have HB0 := Lib.hid hb0
  have HX := Lib.hid (fun w => binomial_any b c (by omega) (by omega) w)
  rw [bI_nat] at HX
  clear hb0
  go_enter Try.func65, Try.ntmps65
  go_wp2_with fail
  refine (HX.out _).mono ?_
  rintro e w' ⟨rfl, rfl⟩
  go_wp2_with fail
  go_ret
  exact ⟨rfl, HB0.out⟩
theorem choices_any (b m c a : Nat) (hb : b ≤ 60) (w : World) :
    Calls Try.prog 65 #[.agg (rc b m c a)] w fun e w' => e = .returned (.int .i64 (ch b c : Nat)) ∧ Below w.heap.size w w' := choicesI_any b m c a hb w
def fitB (m c a : Int) : Bool := decide (a ≤ m) && decide (a ≤ c)
theorem fits_any (b m c a : Int) (w : World) :
    Calls Try.prog 51 #[.agg (rc b m c a)] w fun e w' => e = .returned (.bool (fitB m c a)) ∧ Below w.heap.size w w' := by
  obtain ⟨c0, c1, c2, c3, hb0⟩ := box_rc w b m c a 51
  have HB0 := Lib.hid hb0
  clear hb0
  unfold fitB
  cases e1 : decide (a ≤ m)
  · go_enter Try.func51, Try.ntmps51
    go_wp2_with fail
    go_ret
    exact ⟨rfl, HB0.out⟩
  · go_enter Try.func51, Try.ntmps51
    go_wp2_with fail
    go_ret
    exact ⟨rfl, HB0.out⟩
/-- The first error of a recapture whose chance is asked for. -/
def chE (b m c a : Int) : Int := if (allB [b, m, c, a]) = true then (if b < m ∨ b < c then 8 else 0) else 1
set_option maxRecDepth 4000 in
set_option maxHeartbeats 1000000 in
theorem check_any (b m c a : Int) (w : World) :
    Calls Try.prog 44 #[.agg (rc b m c a)] w fun e w' => e = .returned (.int .i64 (chE b m c a)) ∧ Below w.heap.size w w' := by
  obtain ⟨c0, c1, c2, c3, hb0⟩ := box_rc w b m c a 51
  have hs : (w.alloc (.cells (rc b m c a) 51)).heap.size = w.heap.size + 1 := by simp
  have HA := Lib.hid (fun w => nums4 b m c a w)
  have HE := Lib.hid (show chE b m c a = if (allB [b, m, c, a]) = true then (if b < m ∨ b < c then 8 else 0) else 1 from rfl)
  generalize allB [b, m, c, a] = v at *
  cases v
  · have HF := Lib.hid (show chE b m c a = 1 from HE.out)
    go_enter Try.func44, Try.ntmps44
    go_wp2_with fail
    generalize w.alloc (Obj.cells (rc b m c a) 51) = W at *
    have HAW := HA.out W
    rw [hs] at HAW
    refine HAW.mono ?_
    rintro e w' ⟨rfl, hb⟩
    rw [← hs] at hb
    have BA := Lib.hid (hb0.trans (hb.mono hb0.size))
    clear hb hb0 hs
    go_wp2_with fail
    go_ret
    exact ⟨by rw [HF.out]; rfl, BA.out⟩
  · cases e1 : decide (b < m)
    · cases e2 : decide (b < c)
      · have HF := Lib.hid (show chE b m c a = 0 from (HE.out.trans (if_pos rfl)).trans (if_neg (by have := of_decide_eq_false e1; have := of_decide_eq_false e2; omega)))
        go_enter Try.func44, Try.ntmps44
        go_wp2_with fail
        generalize w.alloc (Obj.cells (rc b m c a) 51) = W at *
        have HAW := HA.out W
        rw [hs] at HAW
        refine HAW.mono ?_
        rintro e w' ⟨rfl, hb⟩
        rw [← hs] at hb
        have BA := Lib.hid (hb0.trans (hb.mono hb0.size))
        have k0 := cell_keep c0 hb (by omega)
        have k1 := cell_keep c1 hb (by omega)
        have k2 := cell_keep c2 hb (by omega)
        clear hb hb0 hs c0 c1 c2 c3
        go_wp2_with fail
        go_ret
        exact ⟨by rw [HF.out]; rfl, BA.out⟩
      · have HF := Lib.hid (show chE b m c a = 8 from (HE.out.trans (if_pos rfl)).trans (if_pos (.inr (of_decide_eq_true e2))))
        go_enter Try.func44, Try.ntmps44
        go_wp2_with fail
        generalize w.alloc (Obj.cells (rc b m c a) 51) = W at *
        have HAW := HA.out W
        rw [hs] at HAW
        refine HAW.mono ?_
        rintro e w' ⟨rfl, hb⟩
        rw [← hs] at hb
        have BA := Lib.hid (hb0.trans (hb.mono hb0.size))
        have k0 := cell_keep c0 hb (by omega)
        have k1 := cell_keep c1 hb (by omega)
        have k2 := cell_keep c2 hb (by omega)
        clear hb hb0 hs c0 c1 c2 c3
        go_wp2_with fail
        go_ret
        exact ⟨by rw [HF.out]; rfl, BA.out⟩
    · have HF := Lib.hid (show chE b m c a = 8 from (HE.out.trans (if_pos rfl)).trans (if_pos (.inl (of_decide_eq_true e1))))
      go_enter Try.func44, Try.ntmps44
      go_wp2_with fail
      generalize w.alloc (Obj.cells (rc b m c a) 51) = W at *
      have HAW := HA.out W
      rw [hs] at HAW
      refine HAW.mono ?_
      rintro e w' ⟨rfl, hb⟩
      rw [← hs] at hb
      have BA := Lib.hid (hb0.trans (hb.mono hb0.size))
      have k0 := cell_keep c0 hb (by omega)
      have k1 := cell_keep c1 hb (by omega)
      have k2 := cell_keep c2 hb (by omega)
      clear hb hb0 hs c0 c1 c2 c3
      go_wp2_with fail
      go_ret
      exact ⟨by rw [HF.out]; rfl, BA.out⟩
set_option maxRecDepth 4000 in
set_option maxHeartbeats 1000000 in
theorem rfits_any (b m c a : Int) (w : World) :
    Calls Try.prog 46 #[.int .i64 b, .int .i64 m, .int .i64 c, .int .i64 a] w fun e w' => e = .returned (.int .i64 (chE b m c a)) ∧ Below w.heap.size w w' := by
  have HA := Lib.hid (fun w => birds4 b m c a w)
  have HE := Lib.hid (show chE b m c a = if (allB [b, m, c, a]) = true then (if b < m ∨ b < c then 8 else 0) else 1 from rfl)
  generalize allB [b, m, c, a] = v at *
  cases v
  · have HF := Lib.hid (show chE b m c a = 1 from HE.out)
    go_enter Try.func46, Try.ntmps46
    go_wp2_with fail
    refine (HA.out w).mono ?_
    rintro e w1 ⟨rfl, hb⟩
    have B1 := Lib.hid hb
    clear hb
    go_wp2_with fail
    go_ret
    exact ⟨by rw [HF.out]; rfl, B1.out⟩
  · cases e1 : decide (b < m)
    · cases e2 : decide (b < c)
      · have HF := Lib.hid (show chE b m c a = 0 from (HE.out.trans (if_pos rfl)).trans (if_neg (by have := of_decide_eq_false e1; have := of_decide_eq_false e2; omega)))
        go_enter Try.func46, Try.ntmps46
        go_wp2_with fail
        refine (HA.out w).mono ?_
        rintro e w1 ⟨rfl, hb⟩
        have B1 := Lib.hid hb
        clear hb
        go_wp2_with fail
        go_ret
        exact ⟨by rw [HF.out]; rfl, B1.out⟩
      · have HF := Lib.hid (show chE b m c a = 8 from (HE.out.trans (if_pos rfl)).trans (if_pos (.inr (of_decide_eq_true e2))))
        go_enter Try.func46, Try.ntmps46
        go_wp2_with fail
        refine (HA.out w).mono ?_
        rintro e w1 ⟨rfl, hb⟩
        have B1 := Lib.hid hb
        clear hb
        go_wp2_with fail
        go_ret
        exact ⟨by rw [HF.out]; rfl, B1.out⟩
    · have HF := Lib.hid (show chE b m c a = 8 from (HE.out.trans (if_pos rfl)).trans (if_pos (.inl (of_decide_eq_true e1))))
      go_enter Try.func46, Try.ntmps46
      go_wp2_with fail
      refine (HA.out w).mono ?_
      rintro e w1 ⟨rfl, hb⟩
      have B1 := Lib.hid hb
      clear hb
      go_wp2_with fail
      go_ret
      exact ⟨by rw [HF.out]; rfl, B1.out⟩
set_option maxRecDepth 4000 in
set_option maxHeartbeats 1000000 in
theorem rways_any (b m c a : Nat) (hb : b ≤ 60) (hm : m ≤ 60) (hc : c ≤ 60) (ha : a ≤ 60) (w : World) :
    Calls Try.prog 43 #[.int .i64 b, .int .i64 m, .int .i64 c, .int .i64 a] w fun e w' => e = .returned (.int .i64 (wN b m c a : Nat)) ∧ w = w' := by
  by_cases h1 : b < m
  · have e1 : decide ((b : Int) < (m : Int)) = true := by simp; omega
    have e1' : decide (b < m) = true := by simp; omega
    have HX := Lib.hid (show wN b m c a = 0 from if_neg (by omega))
    clear h1
    go_enter Try.func43, Try.ntmps43
    go_wp2_with fail
    go_ret
    exact ⟨by rw [HX.out]; rfl, rfl⟩
  have e1 : decide ((b : Int) < (m : Int)) = false := by simp; omega
  have e1' : decide (b < m) = false := by simp; omega
  by_cases h2 : b < c
  · have e2 : decide ((b : Int) < (c : Int)) = true := by simp; omega
    have e2' : decide (b < c) = true := by simp; omega
    have HX := Lib.hid (show wN b m c a = 0 from if_neg (by omega))
    clear h1 h2
    go_enter Try.func43, Try.ntmps43
    go_wp2_with fail
    go_ret
    exact ⟨by rw [HX.out]; rfl, rfl⟩
  have e2 : decide ((b : Int) < (c : Int)) = false := by simp; omega
  have e2' : decide (b < c) = false := by simp; omega
  have HX := Lib.hid (fun w => rbinomial_any m a (by omega) (by omega) w)
  have HY := Lib.hid (fun w => rbinomial_any ((b : Int) - m) ((c : Int) - a) (by omega) (by omega) w)
  have HE := Lib.hid (wI_eq b m c a)
  have hle := wI_le (b := b) (m := m) (c := c) (a := a) hb
  generalize bI (m : Int) (a : Int) = x at *
  generalize bI ((b : Int) - (m : Int)) ((c : Int) - (a : Int)) = y at *
  have HM := Lib.hid (show ((x * y : Nat) : Int) = (x : Int) * (y : Int) from Int.natCast_mul x y)
  have b1 : 0 ≤ (x : Int) * (y : Int) := by rw [← HM.out]; omega
  have b2 : (x : Int) * (y : Int) ≤ 118264581564861424 := by rw [← HM.out]; omega
  clear h1 h2 hle
  go_enter Try.func43, Try.ntmps43
  go_wp2_with fail
  refine (HX.out _).mono ?_
  rintro e w' ⟨rfl, rfl⟩
  go_wp2_with fail
  refine (HY.out _).mono ?_
  rintro e w' ⟨rfl, rfl⟩
  go_wp2_with fail
  go_ret
  exact ⟨by rw [← HE.out, HM.out]; rfl, rfl⟩
end Go.Proofs.Ytgpghnhpbjnhkaa

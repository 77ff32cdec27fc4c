/-
  Best of both sides: the walks. Every argument.
-/
import Derived.Test.YtegehfcnclpdeabDoorCc4
namespace Go.Proofs.YtegehfcnclpdeabDoor
open Go.RowKit
set_option linter.unusedVariables false

def beE (m c a : Int) : Int := if allB [m, c, a] = true then 0 else 1
def beK (m c a : Int) : Bool := allB [m, c, a] && (decide (a ≤ m) && decide (a ≤ c) && decide (m + c - a ≤ 60))
def beV (m c a : Int) : Nat := if beK m c a = true then bstN (m + c - a).toNat m.toNat c.toNat a.toNat (60 - (m + c - a).toNat) else 0
theorem box_c1 (w : World) (m c a : Int) : ((w.alloc (.cells #[.int .i64 0, .int .i64 m, .int .i64 c, .int .i64 a] 47)).cell? ⟨w.heap.size, 0, none⟩ = some (.int .i64 0) ∧ (w.alloc (.cells #[.int .i64 0, .int .i64 m, .int .i64 c, .int .i64 a] 47)).cell? ⟨w.heap.size, 1, none⟩ = some (.int .i64 m) ∧ (w.alloc (.cells #[.int .i64 0, .int .i64 m, .int .i64 c, .int .i64 a] 47)).cell? ⟨w.heap.size, 2, none⟩ = some (.int .i64 c) ∧ (w.alloc (.cells #[.int .i64 0, .int .i64 m, .int .i64 c, .int .i64 a] 47)).cell? ⟨w.heap.size, 3, none⟩ = some (.int .i64 a)) ∧
    Below w.heap.size w (w.alloc (.cells #[.int .i64 0, .int .i64 m, .int .i64 c, .int .i64 a] 47)) := by
  obtain ⟨c0, c1, c2, c3, hb⟩ := box_rc w 0 m c a 47
  exact ⟨⟨c0, c1, c2, c3⟩, hb⟩
theorem field_rc (b m c a : Int) (w : World) : (Instr.field 47 (.agg #[.int .i64 b, .int .i64 m, .int .i64 c, .int .i64 a]) 0).run Tryd.prog w = .ok (.int .i64 b) w := by kernel_rfl
set_option maxRecDepth 4000 in
set_option maxHeartbeats 2000000 in
theorem Best_any (m c a : Int) (w : World) : Calls Tryd.prog 5 #[.int .i64 m, .int .i64 c, .int .i64 a] w fun e w' => e = .returned (.tuple #[.int .i64 (beV m c a : Nat), .bool (beK m c a), .int .i64 (beE m c a)]) ∧ Below w.heap.size w w' := by
  have HA := Lib.hid (nums3 m c a w)
  cases hv : allB [m, c, a]
  · rw [hv] at HA
    have H2 := Lib.hid (show beK m c a = false by unfold beK; rw [hv]; rfl)
    have H1 := Lib.hid (show beV m c a = 0 from if_neg (by rw [H2.out]; decide))
    have H3 := Lib.hid (show beE m c a = 1 by unfold beE; rw [hv]; rfl)
    clear hv
    go_enter Tryd.func5, Tryd.ntmps5
    go_wp2_with fail
    refine (HA.out).mono ?_
    rintro e w1 ⟨rfl, hb⟩
    have B1 := Lib.hid hb
    clear hb
    go_wp2_with fail
    go_ret3
    exact ⟨by rw [H1.out, H2.out, H3.out]; rfl, B1.out⟩
  · rw [hv] at HA
    have H3 := Lib.hid (show beE m c a = 0 by unfold beE; rw [hv]; rfl)
    have HK := Lib.hid (show beK m c a = (decide (a ≤ m) && decide (a ≤ c) && decide (m + c - a ≤ 60)) by unfold beK; rw [hv]; rfl)
    obtain ⟨hm, hc, ha⟩ := allB3 hv
    have HFt := Lib.hid (fun w => fits_any 0 m c a w)
    have hft : fitB m c a = (decide (a ≤ m) && decide (a ≤ c)) := rfl
    clear hv
    cases hf : fitB m c a
    · rw [hf] at HFt
      have H2 := Lib.hid (show beK m c a = false by rw [HK.out, ← hft, hf]; rfl)
      have H1 := Lib.hid (show beV m c a = 0 from if_neg (by rw [H2.out]; decide))
      clear hf hft hm hc ha
      go_enter Tryd.func5, Tryd.ntmps5
      go_wp2_with fail
      refine (HA.out).mono ?_
      rintro e w1 ⟨rfl, hb⟩
      have B1 := Lib.hid hb
      clear hb
      obtain ⟨⟨c0, c1, c2, c3⟩, hb⟩ := box_c1 w1 m c a
      have B2 := Lib.hid (B1.out.trans (hb.mono B1.out.size))
      clear hb
      go_wp2_with fail
      refine (HFt.out _).mono ?_
      rintro e w3 ⟨rfl, hb⟩
      have B3 := Lib.hid (B2.out.trans (hb.mono B2.out.size))
      clear hb
      go_wp2_with fail
      go_ret3
      exact ⟨by rw [H1.out, H2.out, H3.out]; rfl, B3.out⟩
    · rw [hf] at HFt
      have hfm : a ≤ m ∧ a ≤ c := by rw [hft] at hf; simpa using hf
      have HWB := Lib.hid (fun w => withBirds_any 0 m.toNat c.toNat a.toNat (m + c - a).toNat (by omega) (by omega) (by omega) (by omega) (by omega) w)
      rw [show ((m.toNat : Nat) : Int) = m by omega, show ((c.toNat : Nat) : Int) = c by omega, show ((a.toNat : Nat) : Int) = a by omega] at HWB
      by_cases h60 : m + c - a ≤ 60
      · have H2 := Lib.hid (show beK m c a = true by rw [HK.out, ← hft, hf, decide_eq_true h60]; rfl)
        have H1 := Lib.hid (show beV m c a = bstN (m + c - a).toNat m.toNat c.toNat a.toNat (60 - (m + c - a).toNat) from if_pos H2.out)
        have HMF := Lib.hid (fun A cp w h => MaxFunc_any (m + c - a).toNat m.toNat c.toNat a.toNat (61 - (m + c - a).toNat) (by omega) (by omega) (by omega) (by omega) (by omega) A cp w h)
        rw [show 61 - (m + c - a).toNat - 1 = 60 - (m + c - a).toNat by omega, ← H1.out, show ((m.toNat : Nat) : Int) = m by omega, show ((c.toNat : Nat) : Int) = c by omega, show ((a.toNat : Nat) : Int) = a by omega] at HMF
        unfold rc at HMF
        have hfd := fun w => field_rc (beV m c a) m c a w
        have hk : 1 ≤ 61 - (m + c - a).toNat := by omega
        generalize wbC (m + c - a).toNat m.toNat c.toNat a.toNat (61 - (m + c - a).toNat) = xs at *
        generalize beV m c a = q at *
        generalize 61 - (m + c - a).toNat = K at *
        have e1 : ((K : Int) == 0) = false := by simp; omega
        have e1' : (K == 0) = false := by simp; omega
        clear hf hft hm hc ha hfm h60 H1
        go_enter Tryd.func5, Tryd.ntmps5
        go_wp2_with fail
        refine (HA.out).mono ?_
        rintro e w1 ⟨rfl, hb⟩
        have B1 := Lib.hid hb
        clear hb
        obtain ⟨⟨c0, c1, c2, c3⟩, hb⟩ := box_c1 w1 m c a
        have B2 := Lib.hid (B1.out.trans (hb.mono B1.out.size))
        have hs : w1.heap.size < (w1.alloc (.cells #[.int .i64 0, .int .i64 m, .int .i64 c, .int .i64 a] 47)).heap.size := by simp
        go_wp2_with fail
        refine (HFt.out _).mono ?_
        rintro e w3 ⟨rfl, hb3⟩
        have B3 := Lib.hid (B2.out.trans (hb3.mono B2.out.size))
        have y0 := cell_keep c0 hb3 hs
        have y1 := cell_keep c1 hb3 hs
        have y2 := cell_keep c2 hb3 hs
        have y3 := cell_keep c3 hb3 hs
        clear hb hb3 c0 c1 c2 c3 hs
        go_wp2_with fail
        refine (HWB.out w3).mono ?_
        rintro e w4 ⟨A', c', rfl, hr, hb4⟩
        have R4 := Lib.hid hr
        have B4 := Lib.hid (B3.out.trans (hb4.mono B3.out.size))
        clear hr hb4
        go_wp2_with fail
        refine (HMF.out A' c' w4 R4.out).mono ?_
        rintro e w5 ⟨rfl, hb5⟩
        have B5 := Lib.hid (B4.out.trans (hb5.mono B4.out.size))
        clear hb5
        go_wp2_with fail
        go_ret3
        exact ⟨by rw [H2.out, H3.out]; rfl, B5.out⟩
      · have H2 := Lib.hid (show beK m c a = false by rw [HK.out, ← hft, hf, decide_eq_false h60]; rfl)
        have H1 := Lib.hid (show beV m c a = 0 from if_neg (by rw [H2.out]; decide))
        have hk : 61 - (m + c - a).toNat = 0 := by omega
        generalize wbC (m + c - a).toNat m.toNat c.toNat a.toNat (61 - (m + c - a).toNat) = xs at *
        generalize 61 - (m + c - a).toNat = K at *
        have e1 : ((K : Int) == 0) = true := by simp; omega
        have e1' : (K == 0) = true := by simp; omega
        clear hf hft hm hc ha hfm h60 hk
        go_enter Tryd.func5, Tryd.ntmps5
        go_wp2_with fail
        refine (HA.out).mono ?_
        rintro e w1 ⟨rfl, hb⟩
        have B1 := Lib.hid hb
        clear hb
        obtain ⟨⟨c0, c1, c2, c3⟩, hb⟩ := box_c1 w1 m c a
        have B2 := Lib.hid (B1.out.trans (hb.mono B1.out.size))
        have hs : w1.heap.size < (w1.alloc (.cells #[.int .i64 0, .int .i64 m, .int .i64 c, .int .i64 a] 47)).heap.size := by simp
        go_wp2_with fail
        refine (HFt.out _).mono ?_
        rintro e w3 ⟨rfl, hb3⟩
        have B3 := Lib.hid (B2.out.trans (hb3.mono B2.out.size))
        have y0 := cell_keep c0 hb3 hs
        have y1 := cell_keep c1 hb3 hs
        have y2 := cell_keep c2 hb3 hs
        have y3 := cell_keep c3 hb3 hs
        clear hb hb3 c0 c1 c2 c3 hs
        go_wp2_with fail
        refine (HWB.out w3).mono ?_
        rintro e w4 ⟨A', c', rfl, hr, hb4⟩
        have B4 := Lib.hid (B3.out.trans (hb4.mono B3.out.size))
        clear hr hb4
        go_wp2_with fail
        go_ret3
        exact ⟨by rw [H1.out, H2.out, H3.out]; rfl, B4.out⟩
end Go.Proofs.YtegehfcnclpdeabDoor

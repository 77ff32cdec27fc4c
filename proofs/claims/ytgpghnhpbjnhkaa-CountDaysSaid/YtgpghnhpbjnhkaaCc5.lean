/-
  Best of both sides: the walks. Every argument.
-/
import Derived.Test.YtgpghnhpbjnhkaaCc4
namespace Go.Proofs.Ytgpghnhpbjnhkaa
open Go.RowKit
set_option linter.unusedVariables false

def beE (m c a : Int) : Int := if allB [m, c, a] = true then 0 else 1
def beK (m c a : Int) : Bool := allB [m, c, a] && (decide (a ≤ m) && decide (a ≤ c) && decide (m + c - a ≤ 60))
def beV (m c a : Int) : Nat := if beK m c a = true then bstN (m + c - a).toNat m.toNat c.toNat a.toNat (60 - (m + c - a).toNat) else 0
theorem box_c1 (w : World) (m c a : Int) : ((w.alloc (.cells #[.int .i64 0, .int .i64 m, .int .i64 c, .int .i64 a] 51)).cell? ⟨w.heap.size, 0, none⟩ = some (.int .i64 0) ∧ (w.alloc (.cells #[.int .i64 0, .int .i64 m, .int .i64 c, .int .i64 a] 51)).cell? ⟨w.heap.size, 1, none⟩ = some (.int .i64 m) ∧ (w.alloc (.cells #[.int .i64 0, .int .i64 m, .int .i64 c, .int .i64 a] 51)).cell? ⟨w.heap.size, 2, none⟩ = some (.int .i64 c) ∧ (w.alloc (.cells #[.int .i64 0, .int .i64 m, .int .i64 c, .int .i64 a] 51)).cell? ⟨w.heap.size, 3, none⟩ = some (.int .i64 a)) ∧
    Below w.heap.size w (w.alloc (.cells #[.int .i64 0, .int .i64 m, .int .i64 c, .int .i64 a] 51)) := by
  obtain ⟨c0, c1, c2, c3, hb⟩ := box_rc w 0 m c a 51
  exact ⟨⟨c0, c1, c2, c3⟩, hb⟩
theorem field_rc (b m c a : Int) (w : World) : (Instr.field 51 (.agg #[.int .i64 b, .int .i64 m, .int .i64 c, .int .i64 a]) 0).run Try.prog w = .ok (.int .i64 b) w := by kernel_rfl
set_option maxRecDepth 4000 in
set_option maxHeartbeats 2000000 in
theorem Best_any (m c a : Int) (w : World) : Calls Try.prog 25 #[.int .i64 m, .int .i64 c, .int .i64 a] w fun e w' => e = .returned (.tuple #[.int .i64 (beV m c a : Nat), .bool (beK m c a), .int .i64 (beE m c a)]) ∧ Below w.heap.size w w' := by
  have HA := Lib.hid (nums3 m c a w)
  cases hv : allB [m, c, a]
  · rw [hv] at HA
    have H2 := Lib.hid (show beK m c a = false by unfold beK; rw [hv]; rfl)
    have H1 := Lib.hid (show beV m c a = 0 from if_neg (by rw [H2.out]; decide))
    have H3 := Lib.hid (show beE m c a = 1 by unfold beE; rw [hv]; rfl)
    clear hv
    go_enter Try.func25, Try.ntmps25
    go_wp2_with fail
    refine (HA.out).mono ?_
    rintro e w1 ⟨rfl, hb⟩
    have B1 := Lib.hid hb
    clear hb
    go_wp2_with fail
    go_ret3
    exact ⟨by rw [H1.out, H2.out, H3.out]; rfl, B1.out⟩
  · rw [hv] at HA
    have H3 := Lib.hid (show beE m c a = 0 by unfold beE; rw [hv]; rfl)
    have HK := Lib.hid (show beK m c a = (decide (a ≤ m) && decide (a ≤ c) && decide (m + c - a ≤ 60)) by unfold beK; rw [hv]; rfl)
    obtain ⟨hm, hc, ha⟩ := allB3 hv
    have HFt := Lib.hid (fun w => fits_any 0 m c a w)
    have hft : fitB m c a = (decide (a ≤ m) && decide (a ≤ c)) := rfl
    clear hv
    cases hf : fitB m c a
    · rw [hf] at HFt
      have H2 := Lib.hid (show beK m c a = false by rw [HK.out, ← hft, hf]; rfl)
      have H1 := Lib.hid (show beV m c a = 0 from if_neg (by rw [H2.out]; decide))
      clear hf hft hm hc ha
      go_enter Try.func25, Try.ntmps25
      go_wp2_with fail
      refine (HA.out).mono ?_
      rintro e w1 ⟨rfl, hb⟩
      have B1 := Lib.hid hb
      clear hb
      obtain ⟨⟨c0, c1, c2, c3⟩, hb⟩ := box_c1 w1 m c a
      have B2 := Lib.hid (B1.out.trans (hb.mono B1.out.size))
      clear hb
      go_wp2_with fail
      refine (HFt.out _).mono ?_
      rintro e w3 ⟨rfl, hb⟩
      have B3 := Lib.hid (B2.out.trans (hb.mono B2.out.size))
      clear hb
      go_wp2_with fail
      go_ret3
      exact ⟨by rw [H1.out, H2.out, H3.out]; rfl, B3.out⟩
    · rw [hf] at HFt
      have hfm : a ≤ m ∧ a ≤ c := by rw [hft] at hf; simpa using hf
      have HWB := Lib.hid (fun w => withBirds_any 0 m.toNat c.toNat a.toNat (m + c - a).toNat (by omega) (by omega) (by omega) (by omega) (by omega) w)
      rw [show ((m.toNat : Nat) : Int) = m by omega, show ((c.toNat : Nat) : Int) = c by omega, show ((a.toNat : Nat) : Int) = a by omega] at HWB
      by_cases h60 : m + c - a ≤ 60
      · have H2 := Lib.hid (show beK m c a = true by rw [HK.out, ← hft, hf, decide_eq_true h60]; rfl)
        have H1 := Lib.hid (show beV m c a = bstN (m + c - a).toNat m.toNat c.toNat a.toNat (60 - (m + c - a).toNat) from if_pos H2.out)
        have HMF := Lib.hid (fun A cp w h => MaxFunc_any (m + c - a).toNat m.toNat c.toNat a.toNat (61 - (m + c - a).toNat) (by omega) (by omega) (by omega) (by omega) (by omega) A cp w h)
        rw [show 61 - (m + c - a).toNat - 1 = 60 - (m + c - a).toNat by omega, ← H1.out, show ((m.toNat : Nat) : Int) = m by omega, show ((c.toNat : Nat) : Int) = c by omega, show ((a.toNat : Nat) : Int) = a by omega] at HMF
        unfold rc at HMF
        have hfd := fun w => field_rc (beV m c a) m c a w
        have hk : 1 ≤ 61 - (m + c - a).toNat := by omega
        generalize wbC (m + c - a).toNat m.toNat c.toNat a.toNat (61 - (m + c - a).toNat) = xs at *
        generalize beV m c a = q at *
        generalize 61 - (m + c - a).toNat = K at *
        have e1 : ((K : Int) == 0) = false := by simp; omega
        have e1' : (K == 0) = false := by simp; omega
        clear hf hft hm hc ha hfm h60 H1
        go_enter Try.func25, Try.ntmps25
        go_wp2_with fail
        refine (HA.out).mono ?_
        rintro e w1 ⟨rfl, hb⟩
        have B1 := Lib.hid hb
        clear hb
        obtain ⟨⟨c0, c1, c2, c3⟩, hb⟩ := box_c1 w1 m c a
        have B2 := Lib.hid (B1.out.trans (hb.mono B1.out.size))
        have hs : w1.heap.size < (w1.alloc (.cells #[.int .i64 0, .int .i64 m, .int .i64 c, .int .i64 a] 51)).heap.size := by simp
        go_wp2_with fail
        refine (HFt.out _).mono ?_
        rintro e w3 ⟨rfl, hb3⟩
        have B3 := Lib.hid (B2.out.trans (hb3.mono B2.out.size))
        have y0 := cell_keep c0 hb3 hs
        have y1 := cell_keep c1 hb3 hs
        have y2 := cell_keep c2 hb3 hs
        have y3 := cell_keep c3 hb3 hs
        clear hb hb3 c0 c1 c2 c3 hs
        go_wp2_with fail
        refine (HWB.out w3).mono ?_
        rintro e w4 ⟨A', c', rfl, hr, hb4⟩
        have R4 := Lib.hid hr
        have B4 := Lib.hid (B3.out.trans (hb4.mono B3.out.size))
        clear hr hb4
        go_wp2_with fail
        refine (HMF.out A' c' w4 R4.out).mono ?_
        rintro e w5 ⟨rfl, hb5⟩
        have B5 := Lib.hid (B4.out.trans (hb5.mono B4.out.size))
        clear hb5
        go_wp2_with fail
        go_ret3
        exact ⟨by rw [H2.out, H3.out]; rfl, B5.out⟩
      · have H2 := Lib.hid (show beK m c a = false by rw [HK.out, ← hft, hf, decide_eq_false h60]; rfl)
        have H1 := Lib.hid (show beV m c a = 0 from if_neg (by rw [H2.out]; decide))
        have hk : 61 - (m + c - a).toNat = 0 := by omega
        generalize wbC (m + c - a).toNat m.toNat c.toNat a.toNat (61 - (m + c - a).toNat) = xs at *
        generalize 61 - (m + c - a).toNat = K at *
        have e1 : ((K : Int) == 0) = true := by simp; omega
        have e1' : (K == 0) = true := by simp; omega
        clear hf hft hm hc ha hfm h60 hk
        go_enter Try.func25, Try.ntmps25
        go_wp2_with fail
        refine (HA.out).mono ?_
        rintro e w1 ⟨rfl, hb⟩
        have B1 := Lib.hid hb
        clear hb
        obtain ⟨⟨c0, c1, c2, c3⟩, hb⟩ := box_c1 w1 m c a
        have B2 := Lib.hid (B1.out.trans (hb.mono B1.out.size))
        have hs : w1.heap.size < (w1.alloc (.cells #[.int .i64 0, .int .i64 m, .int .i64 c, .int .i64 a] 51)).heap.size := by simp
        go_wp2_with fail
        refine (HFt.out _).mono ?_
        rintro e w3 ⟨rfl, hb3⟩
        have B3 := Lib.hid (B2.out.trans (hb3.mono B2.out.size))
        have y0 := cell_keep c0 hb3 hs
        have y1 := cell_keep c1 hb3 hs
        have y2 := cell_keep c2 hb3 hs
        have y3 := cell_keep c3 hb3 hs
        clear hb hb3 c0 c1 c2 c3 hs
        go_wp2_with fail
        refine (HWB.out w3).mono ?_
        rintro e w4 ⟨A', c', rfl, hr, hb4⟩
        have B4 := Lib.hid (B3.out.trans (hb4.mono B3.out.size))
        clear hr hb4
        go_wp2_with fail
        go_ret3
        exact ⟨by rw [H1.out, H2.out, H3.out]; rfl, B4.out⟩
set_option maxRecDepth 4000 in
set_option maxHeartbeats 2000000 in
theorem rBest_any (m c a : Int) (w : World) : Calls Try.prog 26 #[.int .i64 m, .int .i64 c, .int .i64 a] w fun e w' => e = .returned (.tuple #[.int .i64 (beV m c a : Nat), .bool (beK m c a), .int .i64 (beE m c a)]) ∧ Below w.heap.size w w' := by
  have HA := Lib.hid (birds3 m c a w)
  cases hv : allB [m, c, a]
  · rw [hv] at HA
    have H2 := Lib.hid (show beK m c a = false by unfold beK; rw [hv]; rfl)
    have H1 := Lib.hid (show beV m c a = 0 from if_neg (by rw [H2.out]; decide))
    have H3 := Lib.hid (show beE m c a = 1 by unfold beE; rw [hv]; rfl)
    clear hv
    go_enter Try.func26, Try.ntmps26
    go_wp2_with fail
    refine (HA.out).mono ?_
    rintro e w1 ⟨rfl, hb⟩
    have B1 := Lib.hid hb
    clear hb
    go_wp2_with fail
    go_ret3
    exact ⟨by rw [H1.out, H2.out, H3.out]; rfl, B1.out⟩
  · rw [hv] at HA
    have H3 := Lib.hid (show beE m c a = 0 by unfold beE; rw [hv]; rfl)
    have HK := Lib.hid (show beK m c a = (decide (a ≤ m) && decide (a ≤ c) && decide (m + c - a ≤ 60)) by unfold beK; rw [hv]; rfl)
    obtain ⟨hm, hc, ha⟩ := allB3 hv
    clear hv
    cases e1 : decide (m < a)
    · cases e2 : decide (c < a)
      · cases e3 : decide (60 < m + c - a)
        · have k1 := of_decide_eq_false e1
          have k2 := of_decide_eq_false e2
          have k3 := of_decide_eq_false e3
          have H2 := Lib.hid (show beK m c a = true by rw [HK.out, decide_eq_true (show a ≤ m by omega), decide_eq_true (show a ≤ c by omega), decide_eq_true (show m + c - a ≤ 60 by omega)]; rfl)
          have H1 := Lib.hid (show beV m c a = bstN (m + c - a).toNat m.toNat c.toNat a.toNat (60 - (m + c - a).toNat) from if_pos H2.out)
          obtain ⟨M, hM⟩ : ∃ M : Nat, m = M := ⟨m.toNat, by omega⟩
          obtain ⟨C, hC⟩ : ∃ C : Nat, c = C := ⟨c.toNat, by omega⟩
          obtain ⟨D, hD⟩ : ∃ D : Nat, a = D := ⟨a.toNat, by omega⟩
          obtain ⟨n, hn⟩ : ∃ n : Nat, m + c - a = n := ⟨(m + c - a).toNat, by omega⟩
          have HN := Lib.hid hn
          rw [hn] at H1
          rw [show m.toNat = M by omega, show c.toNat = C by omega, show a.toNat = D by omega, show (n : Int).toNat = n by omega] at H1
          generalize beV m c a = q at *
          have hMn : M ≤ n := by omega
          have hCn : C ≤ n := by omega
          have hn60 : n ≤ 60 := by omega
          have hM60 : M ≤ 60 := by omega
          have hC60 : C ≤ 60 := by omega
          have hD60 : D ≤ 60 := by omega
          subst hM hC hD
          have HWy := Lib.hid (fun b w (h : b ≤ 60) => rways_any b M C D h hM60 hC60 hD60 w)
          have HBi := Lib.hid (fun (b : Nat) w (h : b ≤ 60) => rbinomial_any b C (by omega) (by omega) w)
          have e1' : decide (M < D) = false := by simp; omega
          have e2' : decide (C < D) = false := by simp; omega
          clear hn k1 k2 k3 hm hc ha
          go_enter Try.func26, Try.ntmps26
          go_wp2_with fail
          refine (HA.out).mono ?_
          rintro e w1 ⟨rfl, hb⟩
          have B1 := Lib.hid hb
          clear hb
          go_wp2_with fail
          rw [HN.out]
          clear e1 e2 e1' e2'
          go_loop [10, 11] (fun u v => ∃ k : Nat, n + k ≤ 60 ∧ u = .int .i64 (bstN n M C D k : Nat) ∧ v = .int .i64 ((n + k + 1 : Nat) : Int)) (fun _ v => 61 - (intOf v).toNat)
          case atStart => exact ⟨0, by omega, rfl, by first | rfl | (go_num)⟩
          case round =>
            obtain ⟨k, hk, rfl, rfl⟩ := hrel
            obtain ⟨r1, r2⟩ := bst_range (fun n => wy n M C D) (fun n => ch n C) n k
            obtain ⟨y, hy⟩ : ∃ y, y = bstN n M C D k := ⟨_, rfl⟩
            have hyn : n ≤ y := by rw [hy]; exact r1
            have hyk : y ≤ n + k := by rw [hy]; exact r2
            have HY := Lib.hid hy
            clear r1 r2
            rw [← hy]
            obtain ⟨x, hx⟩ : ∃ x, x = n + k + 1 := ⟨_, rfl⟩
            have HX := Lib.hid hx
            rw [← hx]
            by_cases hlt : x ≤ 60
            · have e4 : decide ((x : Int) ≤ 60) = true := by simp; omega
              have e4' : decide (x ≤ 60) = true := by simp; omega
              have Q1 := Lib.hid (fun w => HWy.out x w hlt)
              have Q2 := Lib.hid (fun w => HBi.out y w (by omega))
              have Q3 := Lib.hid (fun w => HWy.out y w (by omega))
              have Q4 := Lib.hid (fun w => HBi.out x w hlt)
              rw [bI_nat] at Q2 Q4
              have l1 := wN_le (b := x) (m := M) (c := C) (a := D) hlt
              have l2 := wN_le (b := y) (m := M) (c := C) (a := D) (by omega)
              have l3 := ch_small (n := x) hlt C
              have l4 := ch_small (n := y) (by omega) C
              have HAb := Lib.hid (fun w => above_any (wN x M C D) (ch y C) (wN y M C D) (ch x C) (by omega) (by omega) (by omega) (by omega) w)
              have hge : bstN n M C D (k + 1) = if wN y M C D * ch x C < wN x M C D * ch y C then x else y := by
                rw [wN_fit (show M ≤ y by omega) (show C ≤ y by omega), wN_fit (show M ≤ x by omega) (show C ≤ x by omega), hx, hy]
                rfl
              generalize wN x M C D = t1 at *
              generalize wN y M C D = t2 at *
              generalize ch x C = t3 at *
              generalize ch y C = t4 at *
              cases hab : decide (t2 * t3 < t1 * t4)
              · rw [hab] at HAb
                have HG := Lib.hid (show bstN n M C D (k + 1) = y by rw [hge, if_neg (of_decide_eq_false hab)])
                clear hab hge l1 l2 l3 l4 hy hx
                go_wp2_with fail
                refine (Q1.out _).mono ?_
                rintro e w' ⟨rfl, rfl⟩
                go_wp2_with fail
                refine (Q2.out _).mono ?_
                rintro e w' ⟨rfl, rfl⟩
                go_wp2_with fail
                refine (Q3.out _).mono ?_
                rintro e w' ⟨rfl, rfl⟩
                go_wp2_with fail
                refine (Q4.out _).mono ?_
                rintro e w' ⟨rfl, rfl⟩
                go_wp2_with fail
                refine (HAb.out _).mono ?_
                rintro e w' ⟨rfl, rfl⟩
                go_wp2_with fail
                go_round
                case rel => exact ⟨k + 1, by have := HX.out; omega, by rw [HG.out], by rw [show n + (k + 1) + 1 = x + 1 by have := HX.out; omega]; go_num⟩
                case measure => simp [intOf]; omega
              · rw [hab] at HAb
                have HG := Lib.hid (show bstN n M C D (k + 1) = x by rw [hge, if_pos (of_decide_eq_true hab)])
                clear hab hge l1 l2 l3 l4 hy hx
                go_wp2_with fail
                refine (Q1.out _).mono ?_
                rintro e w' ⟨rfl, rfl⟩
                go_wp2_with fail
                refine (Q2.out _).mono ?_
                rintro e w' ⟨rfl, rfl⟩
                go_wp2_with fail
                refine (Q3.out _).mono ?_
                rintro e w' ⟨rfl, rfl⟩
                go_wp2_with fail
                refine (Q4.out _).mono ?_
                rintro e w' ⟨rfl, rfl⟩
                go_wp2_with fail
                refine (HAb.out _).mono ?_
                rintro e w' ⟨rfl, rfl⟩
                go_wp2_with fail
                go_round
                case rel => exact ⟨k + 1, by have := HX.out; omega, by rw [HG.out], by rw [show n + (k + 1) + 1 = x + 1 by have := HX.out; omega]; go_num⟩
                case measure => simp [intOf]; omega
            · have e4 : decide ((x : Int) ≤ 60) = false := by simp; omega
              have e4' : decide (x ≤ 60) = false := by simp; omega
              have HE := Lib.hid (show q = y by rw [H1.out, HY.out]; congr 1; omega)
              clear hy hx hlt
              go_wp2_with fail
              go_ret3
              exact ⟨by rw [HE.out, H2.out, H3.out]; rfl, B1.out⟩
        · have H2 := Lib.hid (show beK m c a = false by rw [HK.out, decide_eq_false (show ¬ m + c - a ≤ 60 by have := of_decide_eq_true e3; omega), Bool.and_false])
          have H1 := Lib.hid (show beV m c a = 0 from if_neg (by rw [H2.out]; decide))
          go_enter Try.func26, Try.ntmps26
          go_wp2_with fail
          refine (HA.out).mono ?_
          rintro e w1 ⟨rfl, hb⟩
          have B1 := Lib.hid hb
          clear hb
          go_wp2_with fail
          go_ret3
          exact ⟨by rw [H1.out, H2.out, H3.out]; rfl, B1.out⟩
      · have H2 := Lib.hid (show beK m c a = false by rw [HK.out, decide_eq_false (show ¬ a ≤ c by have := of_decide_eq_true e2; omega), Bool.and_false, Bool.false_and])
        have H1 := Lib.hid (show beV m c a = 0 from if_neg (by rw [H2.out]; decide))
        go_enter Try.func26, Try.ntmps26
        go_wp2_with fail
        refine (HA.out).mono ?_
        rintro e w1 ⟨rfl, hb⟩
        have B1 := Lib.hid hb
        clear hb
        go_wp2_with fail
        go_ret3
        exact ⟨by rw [H1.out, H2.out, H3.out]; rfl, B1.out⟩
    · have H2 := Lib.hid (show beK m c a = false by rw [HK.out, decide_eq_false (show ¬ a ≤ m by have := of_decide_eq_true e1; omega), Bool.false_and, Bool.false_and])
      have H1 := Lib.hid (show beV m c a = 0 from if_neg (by rw [H2.out]; decide))
      go_enter Try.func26, Try.ntmps26
      go_wp2_with fail
      refine (HA.out).mono ?_
      rintro e w1 ⟨rfl, hb⟩
      have B1 := Lib.hid hb
      clear hb
      go_wp2_with fail
      go_ret3
      exact ⟨by rw [H1.out, H2.out, H3.out]; rfl, B1.out⟩
end Go.Proofs.Ytgpghnhpbjnhkaa

/-
  The reference's small functions: the walks of has, within, players, limited, Validate, paid, gets. Conditions: the lists can be read.
-/
import Derived.Test.YtfmhanpibgmgfaaPul
namespace Go.Proofs.Ytfmhanpibgmgfaa
open Go.RowKit
set_option linter.unusedVariables false

theorem and_1 {x : Nat} (hx : x < 9223372036854775808) : bits .and .i64 (x : Int) 1 = ((x % 2 : Nat) : Int) := by
  have h := i64_and_nat x 1 hx (by decide)
  have e : ((1 : Nat) : Int) = 1 := rfl
  rw [e] at h
  rw [h, show (1 : Nat) = 2 ^ 1 - 1 from rfl, Nat.and_two_pow_sub_one_eq_mod]
theorem has_bit {g p : Nat} (hg : g < 9223372036854775808) : (bits .and .i64 ((g : Int) / (2 : Int) ^ p) 1 == 1) = g.testBit p := by
  have h1 : ((g : Int) / (2 : Int) ^ p) = ((g / 2 ^ p : Nat) : Int) := by simp
  rw [h1, and_1 (Nat.lt_of_le_of_lt (Nat.div_le_self _ _) hg), bit_div]
  cases g.testBit p <;> rfl
set_option maxRecDepth 4000 in
theorem has_any (g p : Nat) (hp : p < 40) (hg : g < 9223372036854775808) (w : World) :
    Calls Try.prog 65 #[.int .i64 (g : Int), .int .i64 (p : Int)] w fun e w' => e = .returned (.bool (g.testBit p)) ∧ w = w' := by
  have HB := Lib.hid (has_bit (p := p) hg)
  have hcv : IntKind.u64.wrap (p : Int) = (p : Int) := by rw [IntKind.wrap_u64]; omega
  generalize g.testBit p = x at *
  go_enter Try.func65, Try.ntmps65
  go_wp2_with fail
  go_ret
  exact ⟨by first | rfl | (rw [HB.out] <;> rfl), rfl⟩
theorem within_any (n lo hi : Int) (w : World) :
    Calls Try.prog 88 #[.int .i64 n, .int .i64 lo, .int .i64 hi] w fun e w' => e = .returned (.bool (decide (lo ≤ n) && decide (n ≤ hi))) ∧ w = w' := by
  by_cases h : lo ≤ n
  · have e1 : decide (lo ≤ n) = true := decide_eq_true h
    have HX := Lib.hid (show (decide (lo ≤ n) && decide (n ≤ hi)) = decide (n ≤ hi) by rw [e1, Bool.true_and])
    rw [HX.out]
    go_enter Try.func88, Try.ntmps88
    go_wp2_with fail
    go_ret
    exact ⟨rfl, rfl⟩
  · have e1 : decide (lo ≤ n) = false := decide_eq_false h
    have HX := Lib.hid (show (decide (lo ≤ n) && decide (n ≤ hi)) = false by rw [e1, Bool.false_and])
    rw [HX.out]
    go_enter Try.func88, Try.ntmps88
    go_wp2_with fail
    go_ret
    exact ⟨rfl, rfl⟩
/-- How many players have so many values; -1 if none. -/
def rpl (m : Nat) : Int := if m = 2 ∨ m = 4 ∨ m = 8 ∨ m = 16 ∨ m = 32 then (plN m : Int) else -1
set_option maxRecDepth 4000 in
set_option maxHeartbeats 1000000 in
theorem rplayers_any (m : Nat) (w : World) :
    Calls Try.prog 52 #[.int .i64 (m : Int)] w fun e w' => e = .returned (.int .i64 (rpl m)) ∧ w = w' := by
  have HX := Lib.hid (show rpl m = if m = 2 ∨ m = 4 ∨ m = 8 ∨ m = 16 ∨ m = 32 then (plN m : Int) else -1 from rfl)
  generalize rpl m = r at *
  go_enter Try.func52, Try.ntmps52
  go_wp2_with fail
  go_loop [3] (fun z => ∃ k : Nat, 1 ≤ k ∧ k ≤ 6 ∧ z = .int .i64 (k : Int) ∧ ∀ j, 1 ≤ j → j < k → m ≠ 2 ^ j) (fun z => 6 - (intOf z).toNat)
  case atStart => exact ⟨1, by omega, by omega, rfl, fun j h1 h2 => by omega⟩
  case round =>
    obtain ⟨k, hk1, hk6, rfl, hall⟩ := hrel
    by_cases h6 : k = 6
    · have HZ := Lib.hid (show r = -1 by
        rw [HX.out, if_neg]
        have a1 := hall 1 (by omega) (by omega)
        have a2 := hall 2 (by omega) (by omega)
        have a3 := hall 3 (by omega) (by omega)
        have a4 := hall 4 (by omega) (by omega)
        have a5 := hall 5 (by omega) (by omega)
        simp at a1 a2 a3 a4 a5
        omega)
      subst h6
      clear hall
      go_wp2_with fail
      go_ret
      exact ⟨by rw [HZ.out] <;> rfl, rfl⟩
    · by_cases he : m = 2 ^ k
      · have HZ := Lib.hid (show r = (k : Int) by
          rw [HX.out, he]
          rcases (show k = 1 ∨ k = 2 ∨ k = 3 ∨ k = 4 ∨ k = 5 by omega) with rfl | rfl | rfl | rfl | rfl <;> rfl)
        subst he
        clear hall
        rcases (show k = 1 ∨ k = 2 ∨ k = 3 ∨ k = 4 ∨ k = 5 by omega) with rfl | rfl | rfl | rfl | rfl
        all_goals (
          go_wp2_with fail
          go_ret
          exact ⟨by rw [HZ.out] <;> rfl, rfl⟩)
      · have HN := Lib.hid (fun j (h1 : 1 ≤ j) (h2 : j < k + 1) => show m ≠ 2 ^ j by
          by_cases e : j = k
          · rw [e]; exact he
          · exact hall j h1 (by omega))
        clear hall
        have e1 : ((m : Int) == ((2 ^ k : Nat) : Int)) = false := by
          rw [beq_eq_false_iff_ne]
          omega
        have e2 : (m == 2 ^ k) = false := by rw [beq_eq_false_iff_ne]; exact he
        clear he
        rcases (show k = 1 ∨ k = 2 ∨ k = 3 ∨ k = 4 ∨ k = 5 by omega) with rfl | rfl | rfl | rfl | rfl
        all_goals (
          simp at e1 e2
          have e3 := beq_eq_false_iff_ne.2 e2
          go_wp2_with fail
          go_round
          (case rel => first | exact ⟨2, by decide, by decide, rfl, HN.out⟩ | exact ⟨3, by decide, by decide, rfl, HN.out⟩ | exact ⟨4, by decide, by decide, rfl, HN.out⟩ | exact ⟨5, by decide, by decide, rfl, HN.out⟩ | exact ⟨6, by decide, by decide, rfl, HN.out⟩)
          (case measure => simp [intOf]))
set_option maxRecDepth 4000 in
set_option maxHeartbeats 1000000 in
theorem limited_any (A : Option Addr) (l : List Int) (c : Nat) (most : Int) (hm : 0 ≤ most) (hm2 : most ≤ 1000000000000) (hl : l.length ≤ 9223372036854775807) (w : World) (hr : Rd w w.heap.size A (ints l)) :
    Calls Try.prog 58 #[.slice A l.length c, .int .i64 most] w fun e w' => e = .returned (.bool (upB most l)) ∧ w = w' := by
  have HR := Lib.hid hr
  have HW := Lib.hid (fun d w => within_any d (-most) most w)
  have hw : wrap64 (-most) = -most := by unfold wrap64; omega
  have HU := Lib.hid (show upB most l = l.all (inUp most) from rfl)
  generalize upB most l = u at *
  clear hr
  go_enter Try.func58, Try.ntmps58
  go_wp2_with fail
  go_loop [5] (fun z => ∃ k : Nat, k ≤ l.length ∧ z = .int .i64 (k : Int) ∧ (l.take k).all (inUp most) = true) (fun z => l.length - (intOf z).toNat)
  case atStart => exact ⟨0, by omega, rfl, by simp⟩
  case round =>
    obtain ⟨k, hk, rfl, hall⟩ := hrel
    by_cases hlt : k < l.length
    · obtain ⟨b, o, d, rfl, hd, hc⟩ := HR.out.int k hlt
      have HN := Lib.hid (all_take1 hd.out (inUp most))
      have HA := Lib.hid hall
      have HWd := Lib.hid (show Calls Try.prog 88 #[.int .i64 d, .int .i64 (-most), .int .i64 most] w fun e w' => e = .returned (.bool (inUp most d)) ∧ w = w' from HW.out d w)
      have HBad := Lib.hid (fun (h : inUp most d = false) => show u = false by
        rw [HU.out]
        cases hq : l.all (inUp most)
        · rfl
        · rw [List.all_eq_true.1 hq d (List.mem_of_getElem? hd.out)] at h
          cases h)
      have b0 : (0 : Int) ≤ (k : Int) := by omega
      have b1 : (k : Int) < (l.length : Int) := by omega
      clear hd hall
      cases hx : inUp most d
      · have HZ := Lib.hid (HBad.out hx)
        rw [hx] at HWd
        clear hx
        go_wp2_with fail
        refine HWd.out.mono ?_
        rintro e w' ⟨rfl, rfl⟩
        go_wp2_with fail
        go_ret
        exact ⟨by rw [HZ.out] <;> rfl, rfl⟩
      · have HZ := Lib.hid (show (l.take (k + 1)).all (inUp most) = true by rw [HN.out, HA.out, hx]; rfl)
        rw [hx] at HWd
        clear hx
        go_wp2_with fail
        refine HWd.out.mono ?_
        rintro e w' ⟨rfl, rfl⟩
        go_wp2_with fail
        go_round
        case rel => exact ⟨k + 1, by omega, by go_num, HZ.out⟩
        case measure => simp [intOf]; omega
    · have hkl : k = l.length := by omega
      have HZ := Lib.hid (show u = true by rw [HU.out]; rw [hkl, List.take_length] at hall; exact hall)
      subst hkl
      clear hall hlt
      go_wp2_with fail
      go_ret
      exact ⟨by rw [HZ.out] <;> rfl, rfl⟩
theorem vdE_r (v : List Int) : vdE v = if rpl v.length < 0 then 1 else if upB 1000 v = true then (if nth v 0 = 0 then 0 else 1) else 1 := by
  unfold vdE
  by_cases h : v.length = 2 ∨ v.length = 4 ∨ v.length = 8 ∨ v.length = 16 ∨ v.length = 32
  · have h1 : ¬ rpl v.length < 0 := by unfold rpl; rw [if_pos h]; omega
    have h2 : (decide (v.length = 2) || decide (v.length = 4) || decide (v.length = 8) || decide (v.length = 16) || decide (v.length = 32)) = true := by
      rcases h with h | h | h | h | h <;> rw [h] <;> rfl
    rw [if_neg h1]
    unfold fgB
    rw [h2, Bool.true_and]
    cases upB 1000 v
    · simp
    · by_cases h3 : nth v 0 = 0
      · simp [h3]
      · simp [h3]
  · have h1 : rpl v.length < 0 := by unfold rpl; rw [if_neg h]; omega
    rw [if_pos h1, fg_no h]
    rfl
set_option maxRecDepth 4000 in
set_option maxHeartbeats 1000000 in
theorem rValidate_any (A : Option Addr) (v : List Int) (c : Nat) (hl : v.length ≤ 9223372036854775807) (w : World) (hr : Rd w w.heap.size A (ints v)) :
    Calls Try.prog 22 #[.slice A v.length c] w fun e w' => e = .returned (.int .i64 (vdE v)) ∧ w = w' := by
  have HP := Lib.hid (rplayers_any v.length w)
  have HLi := Lib.hid (limited_any A v c 1000 (by omega) (by omega) hl w hr)
  have HX := Lib.hid (vdE_r v)
  by_cases h1 : rpl v.length < 0
  · have e1 : decide (rpl v.length < 0) = true := decide_eq_true h1
    have HZ := Lib.hid (show vdE v = 1 by rw [HX.out, if_pos h1])
    generalize rpl v.length = r at *
    generalize v.length = m at *
    clear hr h1 HLi
    go_enter Try.func22, Try.ntmps22
    go_wp2_with fail
    refine HP.out.mono ?_
    rintro e w' ⟨rfl, rfl⟩
    go_wp2_with fail
    go_ret
    exact ⟨by rw [HZ.out] <;> rfl, rfl⟩
  · have e1 : decide (rpl v.length < 0) = false := decide_eq_false h1
    have hl0 : 0 < v.length := by
      rcases Nat.eq_zero_or_pos v.length with h | h
      · exact absurd (by rw [h]; decide) h1
      · exact h
    obtain ⟨b, o, d, rfl, hd, hc⟩ := hr.int 0 hl0
    rw [Nat.add_zero] at hc
    have HD := Lib.hid (nth_get hd.out)
    have b1 : (0 : Int) < (v.length : Int) := by omega
    rw [if_neg h1, HD.out] at HX
    generalize rpl v.length = r at *
    clear hr h1 hd
    cases hu : upB 1000 v
    · have HZ := Lib.hid (show vdE v = 1 by rw [HX.out, hu]; rfl)
      rw [hu] at HLi
      generalize v.length = m at *
      clear hu
      go_enter Try.func22, Try.ntmps22
      go_wp2_with fail
      refine HP.out.mono ?_
      rintro e w' ⟨rfl, rfl⟩
      go_wp2_with fail
      refine HLi.out.mono ?_
      rintro e w' ⟨rfl, rfl⟩
      go_wp2_with fail
      go_ret
      exact ⟨by rw [HZ.out] <;> rfl, rfl⟩
    · have HZ := Lib.hid (show vdE v = if d = 0 then 0 else 1 by rw [HX.out, hu]; rfl)
      rw [hu] at HLi
      generalize v.length = m at *
      clear hu
      by_cases h0 : d = 0
      · have e2 : (d != 0) = false := by simpa using h0
        rw [if_pos h0] at HZ
        clear h0
        go_enter Try.func22, Try.ntmps22
        go_wp2_with fail
        refine HP.out.mono ?_
        rintro e w' ⟨rfl, rfl⟩
        go_wp2_with fail
        refine HLi.out.mono ?_
        rintro e w' ⟨rfl, rfl⟩
        go_wp2_with fail
        go_ret
        exact ⟨by rw [HZ.out] <;> rfl, rfl⟩
      · have e2 : (d != 0) = true := by simpa using h0
        rw [if_neg h0] at HZ
        clear h0
        go_enter Try.func22, Try.ntmps22
        go_wp2_with fail
        refine HP.out.mono ?_
        rintro e w' ⟨rfl, rfl⟩
        go_wp2_with fail
        refine HLi.out.mono ?_
        rintro e w' ⟨rfl, rfl⟩
        go_wp2_with fail
        go_ret
        exact ⟨by rw [HZ.out] <;> rfl, rfl⟩
theorem Pv.rpl {v : List Int} {n : Nat} (h : Pv v n) : rpl v.length = (n : Int) := by
  have h1 := h.pl
  have h2 := h.len
  have h3 := h.one
  have h4 := h.five
  unfold Go.Proofs.Ytfmhanpibgmgfaa.rpl
  rw [if_pos, h1]
  rw [h2]
  rcases (show n = 1 ∨ n = 2 ∨ n = 3 ∨ n = 4 ∨ n = 5 by omega) with rfl | rfl | rfl | rfl | rfl <;> decide
end Go.Proofs.Ytfmhanpibgmgfaa

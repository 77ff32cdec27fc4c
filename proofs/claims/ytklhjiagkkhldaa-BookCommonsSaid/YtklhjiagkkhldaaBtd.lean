/-
  Common: the walks, of both sides. Condition: the lists can be read.
-/
import Derived.Test.YtklhjiagkkhldaaBtc
namespace Go.Proofs.Ytklhjiagkkhldaa
open Go.RowKit
set_option linter.unusedVariables false

set_option maxRecDepth 4000 in
set_option maxHeartbeats 4000000 in
theorem common_any (A A' : Option Addr) (c c' : Nat) (a b : List ByteArray) (w : World) (hr : Rd w w.heap.size A (txts a)) (hr' : Rd w w.heap.size A' (txts b)) (hl : a.length ≤ 64) (hl' : b.length ≤ 64) :
    Calls Try.prog 69 #[.slice A a.length c, .slice A' b.length c'] w fun e w' => e = .returned (.int .i64 (cmN a b)) ∧ ∃ m, w' = w.drewN m := by
  have HR := Lib.hid hr
  have HR' := Lib.hid hr'
  have HO := Lib.hid (fun k h1 h2 => cm_of a b k h1 h2)
  clear hr hr'
  go_enter Try.func69, Try.ntmps69
  go_wp2_with fail
  go_loopw [5] (fun i wr => ∃ k : Nat, k ≤ a.length ∧ k ≤ b.length ∧ i = .int .i64 k ∧ (∀ j, j < k → a[j]? = b[j]? ∧ j < a.length) ∧ ∃ m, wr = w.drewN m) (fun i _ => a.length - (intOf i).toNat)
  case atStart => exact ⟨0, by omega, by omega, rfl, fun j hj => by omega, 0, rfl⟩
  case round =>
    obtain ⟨k, hk, hk', rfl, hall, m, rfl⟩ := hrel
    have HA := Lib.hid hall
    clear hall
    by_cases h1 : k < a.length
    case neg =>
      have e1 : decide ((k : Int) < (a.length : Int)) = false := decide_eq_false (by omega)
      have e1' : decide (k < a.length) = false := decide_eq_false h1
      have HX := Lib.hid (HO.out k HA.out (.inl (by omega)))
      clear h1
      go_wp2_with fail
      go_quiet (fail)
      go_wp2_with fail
      go_ret
      exact ⟨by rw [HX.out]; rfl, _, World.drewN_drewN _ _ _⟩
    have e1 : decide ((k : Int) < (a.length : Int)) = true := decide_eq_true (by omega)
    have e1' : decide (k < a.length) = true := decide_eq_true h1
    by_cases h2 : k < b.length
    case neg =>
      have e2 : decide ((k : Int) < (b.length : Int)) = false := decide_eq_false (by omega)
      have e2' : decide (k < b.length) = false := decide_eq_false h2
      have HX := Lib.hid (HO.out k HA.out (.inr (.inl (by omega))))
      clear h1 h2
      go_wp2_with fail
      go_quiet (fail)
      go_wp2_with fail
      go_ret
      exact ⟨by rw [HX.out]; rfl, _, World.drewN_drewN _ _ _⟩
    have e2 : decide ((k : Int) < (b.length : Int)) = true := decide_eq_true (by omega)
    have e2' : decide (k < b.length) = true := decide_eq_true h2
    obtain ⟨g1, o1, s, hA1, hx, hc⟩ := HR.out.txt k h1
    obtain ⟨g2, o2, t, hA2, hy, hc'⟩ := HR'.out.txt k h2
    subst hA1 hA2
    have b0 : (0 : Int) ≤ (k : Int) := by omega
    have b1 : (k : Int) < (a.length : Int) := by omega
    have b2 : (k : Int) < (b.length : Int) := by omega
    by_cases he : s = t
    case neg =>
      have e4 : (s.toList == t.toList) = false := by rw [bl_eqb]; exact decide_eq_false he
      have HX := Lib.hid (HO.out k HA.out (.inr (.inr (by rw [hx.out, hy.out]; intro e; injection e with e; exact he e))))
      clear he hx hy
      go_wp2_with fail
      go_quiet (fail)
      go_wp2_with fail
      go_ret
      exact ⟨by rw [HX.out]; rfl, _, World.drewN_drewN _ _ _⟩
    have e4 : (s.toList == t.toList) = true := by rw [bl_eqb, he]; simp
    have HN := Lib.hid (show ∀ j, j < k + 1 → a[j]? = b[j]? ∧ j < a.length from fun j hj => by
      rcases Nat.lt_or_ge j k with h | h
      · exact HA.out j h
      · obtain rfl : j = k := by omega
        exact ⟨by rw [hx.out, hy.out, he], h1⟩)
    clear he hx hy
    go_wp2_with fail
    go_quiet (fail)
    go_wp2_with fail
    go_roundw
    case rel => exact ⟨k + 1, by omega, by omega, by go_num, HN.out, _, rfl⟩
    case measure => simp [intOf]; omega
set_option maxRecDepth 4000 in
set_option maxHeartbeats 4000000 in
theorem rcommon_any (A A' : Option Addr) (c c' : Nat) (a b : List ByteArray) (w : World) (hr : Rd w w.heap.size A (txts a)) (hr' : Rd w w.heap.size A' (txts b)) (hl : a.length ≤ 64) (hl' : b.length ≤ 64) :
    Calls Try.prog 70 #[.slice A a.length c, .slice A' b.length c'] w fun e w' => e = .returned (.int .i64 (cmN a b)) ∧ ∃ m, w' = w.drewN m := by
  have HR := Lib.hid hr
  have HR' := Lib.hid hr'
  have HO := Lib.hid (fun k h1 h2 => cm_of a b k h1 h2)
  clear hr hr'
  go_enter Try.func70, Try.ntmps70
  go_wp2_with fail
  go_loopw [5] (fun i wr => ∃ k : Nat, k ≤ a.length ∧ k ≤ b.length ∧ i = .int .i64 k ∧ (∀ j, j < k → a[j]? = b[j]? ∧ j < a.length) ∧ ∃ m, wr = w.drewN m) (fun i _ => a.length - (intOf i).toNat)
  case atStart => exact ⟨0, by omega, by omega, rfl, fun j hj => by omega, 0, rfl⟩
  case round =>
    obtain ⟨k, hk, hk', rfl, hall, m, rfl⟩ := hrel
    have HA := Lib.hid hall
    clear hall
    by_cases h1 : k < a.length
    case neg =>
      have e1 : decide ((k : Int) < (a.length : Int)) = false := decide_eq_false (by omega)
      have e1' : decide (k < a.length) = false := decide_eq_false h1
      have HX := Lib.hid (HO.out k HA.out (.inl (by omega)))
      clear h1
      go_wp2_with fail
      go_quiet (fail)
      go_wp2_with fail
      go_ret
      exact ⟨by rw [HX.out]; rfl, _, World.drewN_drewN _ _ _⟩
    have e1 : decide ((k : Int) < (a.length : Int)) = true := decide_eq_true (by omega)
    have e1' : decide (k < a.length) = true := decide_eq_true h1
    by_cases h2 : k < b.length
    case neg =>
      have e2 : decide ((k : Int) < (b.length : Int)) = false := decide_eq_false (by omega)
      have e2' : decide (k < b.length) = false := decide_eq_false h2
      have HX := Lib.hid (HO.out k HA.out (.inr (.inl (by omega))))
      clear h1 h2
      go_wp2_with fail
      go_quiet (fail)
      go_wp2_with fail
      go_ret
      exact ⟨by rw [HX.out]; rfl, _, World.drewN_drewN _ _ _⟩
    have e2 : decide ((k : Int) < (b.length : Int)) = true := decide_eq_true (by omega)
    have e2' : decide (k < b.length) = true := decide_eq_true h2
    obtain ⟨g1, o1, s, hA1, hx, hc⟩ := HR.out.txt k h1
    obtain ⟨g2, o2, t, hA2, hy, hc'⟩ := HR'.out.txt k h2
    subst hA1 hA2
    have b0 : (0 : Int) ≤ (k : Int) := by omega
    have b1 : (k : Int) < (a.length : Int) := by omega
    have b2 : (k : Int) < (b.length : Int) := by omega
    by_cases he : s = t
    case neg =>
      have e4 : (s.toList == t.toList) = false := by rw [bl_eqb]; exact decide_eq_false he
      have HX := Lib.hid (HO.out k HA.out (.inr (.inr (by rw [hx.out, hy.out]; intro e; injection e with e; exact he e))))
      clear he hx hy
      go_wp2_with fail
      go_quiet (fail)
      go_wp2_with fail
      go_ret
      exact ⟨by rw [HX.out]; rfl, _, World.drewN_drewN _ _ _⟩
    have e4 : (s.toList == t.toList) = true := by rw [bl_eqb, he]; simp
    have HN := Lib.hid (show ∀ j, j < k + 1 → a[j]? = b[j]? ∧ j < a.length from fun j hj => by
      rcases Nat.lt_or_ge j k with h | h
      · exact HA.out j h
      · obtain rfl : j = k := by omega
        exact ⟨by rw [hx.out, hy.out, he], h1⟩)
    clear he hx hy
    go_wp2_with fail
    go_quiet (fail)
    go_wp2_with fail
    go_roundw
    case rel => exact ⟨k + 1, by omega, by omega, by go_num, HN.out, _, rfl⟩
    case measure => simp [intOf]; omega
/-- What Common returns. -/
def coE (a b : List ByteArray) : Int := if vpE a = 0 then vpE b else vpE a
def coV (a b : List ByteArray) : Int := if coE a b = 0 then (cmN a b : Int) else 0
theorem co_ok {a b : List ByteArray} (h : coE a b = 0) : vpE a = 0 ∧ vpE b = 0 := by
  unfold coE at h
  split at h
  · rename_i h1
    exact ⟨h1, h⟩
  · rename_i h1
    exact absurd h h1
theorem Common_any (A A' : Option Addr) (c c' : Nat) (a b : List ByteArray) (w : World) (hr : Rd w w.heap.size A (txts a)) (hr' : Rd w w.heap.size A' (txts b)) (hs : Sz a) (hs' : Sz b) (hl : a.length ≤ 9223372036854775807) (hl' : b.length ≤ 9223372036854775807) :
    Calls Try.prog 42 #[.slice A a.length c, .slice A' b.length c'] w fun e w' => e = .returned (.tuple #[.int .i64 (coV a b), .int .i64 (coE a b)]) ∧ Below w.heap.size w w' := by
  have H1 := Lib.hid (Validate_any A c a w hr hs hl)
  have H2 := Lib.hid (Validate_any A' c' b w hr' hs' hl')
  by_cases h1 : vpE a = 0
  case neg =>
    have HE := Lib.hid (show coE a b = vpE a from if_neg h1)
    have HV := Lib.hid (show coV a b = 0 from if_neg (by rw [HE.out]; exact h1))
    have e1 : (vpE a != 0) = true := by simpa using h1
    rw [HE.out, HV.out]
    generalize vpE a = E at *
    generalize a.length = q at *
    generalize b.length = q' at *
    clear h1 hr hr'
    go_enter Try.func42, Try.ntmps42
    go_wp2_with fail
    refine (H1.out).mono ?_
    rintro e w' ⟨rfl, rfl⟩
    go_wp2_with fail
    go_ret2
    exact ⟨rfl, Below.refl _ _⟩
  rw [h1] at H1
  by_cases h2 : vpE b = 0
  case neg =>
    have HE := Lib.hid (show coE a b = vpE b from if_pos h1)
    have HV := Lib.hid (show coV a b = 0 from if_neg (by rw [HE.out]; exact h2))
    have e1 : (vpE b != 0) = true := by simpa using h2
    rw [HE.out, HV.out]
    generalize vpE b = E at *
    generalize a.length = q at *
    generalize b.length = q' at *
    clear h1 h2 hr hr'
    go_enter Try.func42, Try.ntmps42
    go_wp2_with fail
    refine (H1.out).mono ?_
    rintro e w' ⟨rfl, rfl⟩
    go_wp2_with fail
    refine (H2.out).mono ?_
    rintro e w' ⟨rfl, rfl⟩
    go_wp2_with fail
    go_ret2
    exact ⟨rfl, Below.refl _ _⟩
  rw [h2] at H2
  have hE : coE a b = 0 := by unfold coE; rw [if_pos h1]; exact h2
  have HE := Lib.hid hE
  have HV := Lib.hid (show coV a b = cmN a b from if_pos hE)
  have HC := Lib.hid (common_any A A' c c' a b w hr hr' (vpE_ok h1).1 (vpE_ok h2).1)
  rw [HE.out, HV.out]
  generalize cmN a b = n at *
  generalize a.length = q at *
  generalize b.length = q' at *
  clear h1 h2 hr hr' hE
  go_enter Try.func42, Try.ntmps42
  go_wp2_with fail
  refine (H1.out).mono ?_
  rintro e w' ⟨rfl, rfl⟩
  go_wp2_with fail
  refine (H2.out).mono ?_
  rintro e w' ⟨rfl, rfl⟩
  go_wp2_with fail
  refine HC.out.mono ?_
  rintro e w' ⟨rfl, m, rfl⟩
  go_wp2_with fail
  go_ret2
  exact ⟨rfl, bdDN (Below.refl _ _) m⟩
theorem rCommon_any (A A' : Option Addr) (c c' : Nat) (a b : List ByteArray) (w : World) (hr : Rd w w.heap.size A (txts a)) (hr' : Rd w w.heap.size A' (txts b)) (hs : Sz a) (hs' : Sz b) (hl : a.length ≤ 9223372036854775807) (hl' : b.length ≤ 9223372036854775807) :
    Calls Try.prog 43 #[.slice A a.length c, .slice A' b.length c'] w fun e w' => e = .returned (.tuple #[.int .i64 (coV a b), .int .i64 (coE a b)]) ∧ Below w.heap.size w w' := by
  have H1 := Lib.hid (rValidate_any A c a w hr hs hl)
  have H2 := Lib.hid (rValidate_any A' c' b w hr' hs' hl')
  by_cases h1 : vpE a = 0
  case neg =>
    have HE := Lib.hid (show coE a b = vpE a from if_neg h1)
    have HV := Lib.hid (show coV a b = 0 from if_neg (by rw [HE.out]; exact h1))
    have e1 : (vpE a != 0) = true := by simpa using h1
    rw [HE.out, HV.out]
    generalize vpE a = E at *
    generalize a.length = q at *
    generalize b.length = q' at *
    clear h1 hr hr'
    go_enter Try.func43, Try.ntmps43
    go_wp2_with fail
    refine (H1.out).mono ?_
    rintro e w' ⟨rfl, rfl⟩
    go_wp2_with fail
    go_ret2
    exact ⟨rfl, Below.refl _ _⟩
  rw [h1] at H1
  by_cases h2 : vpE b = 0
  case neg =>
    have HE := Lib.hid (show coE a b = vpE b from if_pos h1)
    have HV := Lib.hid (show coV a b = 0 from if_neg (by rw [HE.out]; exact h2))
    have e1 : (vpE b != 0) = true := by simpa using h2
    rw [HE.out, HV.out]
    generalize vpE b = E at *
    generalize a.length = q at *
    generalize b.length = q' at *
    clear h1 h2 hr hr'
    go_enter Try.func43, Try.ntmps43
    go_wp2_with fail
    refine (H1.out).mono ?_
    rintro e w' ⟨rfl, rfl⟩
    go_wp2_with fail
    refine (H2.out).mono ?_
    rintro e w' ⟨rfl, rfl⟩
    go_wp2_with fail
    go_ret2
    exact ⟨rfl, Below.refl _ _⟩
  rw [h2] at H2
  have hE : coE a b = 0 := by unfold coE; rw [if_pos h1]; exact h2
  have HE := Lib.hid hE
  have HV := Lib.hid (show coV a b = cmN a b from if_pos hE)
  have HC := Lib.hid (rcommon_any A A' c c' a b w hr hr' (vpE_ok h1).1 (vpE_ok h2).1)
  rw [HE.out, HV.out]
  generalize cmN a b = n at *
  generalize a.length = q at *
  generalize b.length = q' at *
  clear h1 h2 hr hr' hE
  go_enter Try.func43, Try.ntmps43
  go_wp2_with fail
  refine (H1.out).mono ?_
  rintro e w' ⟨rfl, rfl⟩
  go_wp2_with fail
  refine (H2.out).mono ?_
  rintro e w' ⟨rfl, rfl⟩
  go_wp2_with fail
  refine HC.out.mono ?_
  rintro e w' ⟨rfl, m, rfl⟩
  go_wp2_with fail
  go_ret2
  exact ⟨rfl, bdDN (Below.refl _ _) m⟩
end Go.Proofs.Ytklhjiagkkhldaa

/-
  The chapter's examples that the laws ask: the walks of SameRats (of equal lists), SameInts (of equal lists), long, known. Every world.
-/
import Derived.Test.YtfmhanpibgmgfaaPui
namespace Go.Proofs.Ytfmhanpibgmgfaa
open Go.RowKit
set_option linter.unusedVariables false

/-! ### A run that is reckoned -/
def smB (x : Int) : Bool := decide (-1000000000 ≤ x) && decide (x ≤ 1000000000)
theorem smB_iff {x : Int} (h : smB x = true) : Sm x := by
  unfold smB at h
  simp only [Bool.and_eq_true, decide_eq_true_eq] at h
  exact h
def goodB (n L : Nat) (S : SdT) : Bool := ((List.range n).all fun k => (List.range L).all fun p => smB (S.R k p)) && ((List.range L).all fun p => smB (S.E p)) && !decide (S.den = 0)
theorem goodB_ok {n L : Nat} {S : SdT} (h : goodB n L S = true) : GoodT n L S := by
  unfold goodB at h
  rw [Bool.and_eq_true, Bool.and_eq_true] at h
  obtain ⟨⟨h1, h2⟩, h3⟩ := h
  refine ⟨fun k p hk hp => smB_iff (List.all_eq_true.1 (List.all_eq_true.1 h1 k (List.mem_range.2 hk)) p (List.mem_range.2 hp)), fun p hp => smB_iff (List.all_eq_true.1 h2 p (List.mem_range.2 hp)), ?_⟩
  simpa using h3
def runB (n L : Nat) : Nat → SdT → Bool
  | 0, S => goodB n L S && !coreB S.E L && decide (idxF posB (rowF S.E L) = -1)
  | t + 1, S => goodB n L S && !coreB S.E L && (decide (0 ≤ idxF posB (rowF S.E L)) && decide (idxF posB (rowF S.E L) < (L : Int)) && decide (0 ≤ lvF S.R S.ch (L - 1) (idxF posB (rowF S.E L)).toNat n) && decide (lvF S.R S.ch (L - 1) (idxF posB (rowF S.E L)).toNat n < (n : Int)) && runB n L t (nxS S (idxF posB (rowF S.E L)).toNat (lvF S.R S.ch (L - 1) (idxF posB (rowF S.E L)).toNat n).toNat))
theorem runB_ok {n L : Nat} : ∀ {t : Nat} {S : SdT}, runB n L t S = true → RunN n L t S
  | 0, S, h => by
    unfold runB at h
    rw [Bool.and_eq_true, Bool.and_eq_true] at h
    exact ⟨goodB_ok h.1.1, by simpa using h.1.2, of_decide_eq_true h.2⟩
  | t + 1, S, h => by
    unfold runB at h
    simp only [Bool.and_eq_true, decide_eq_true_eq] at h
    obtain ⟨⟨h1, h2⟩, ⟨⟨⟨h3, h4⟩, h5⟩, h6⟩, h7⟩ := h
    refine ⟨goodB_ok h1, by simpa using h2, (idxF posB (rowF S.E L)).toNat, (lvF S.R S.ch (L - 1) (idxF posB (rowF S.E L)).toNat n).toNat, by omega, by omega, by omega, by omega, runB_ok h7⟩
def v8 : List Int := [0, 0, 0, 10, 0, 10, 10, 12]
theorem pv8 : Pv v8 3 := ⟨by decide, by decide, by decide, by decide, by decide⟩
theorem vd8 : vdE v8 = 0 := by decide +kernel
theorem up8 : upB 1000 v8 = true := by decide +kernel
theorem run8 : RunN 3 v8.length 3 ⟨1, alF, inF, excF v8 1 (rowF (vaF v8) 3)⟩ := runB_ok (by decide +kernel)
theorem mn4 : mnLen [0, 0, 0, 10] = 2 ∧ vdE [0, 0, 0, 10] = 0 ∧ mnL [0, 0, 0, 10] wS = [5, 1, 5, 1] := by decide +kernel
theorem cb8 : cbE v8 2 [⟨3, 1⟩, ⟨5, 1⟩, ⟨6, 1⟩] = 0 := by decide +kernel
theorem cc8a : ccE [0, 0, 0, 8, 0, 8, 8, 12] 1 [4, 4, 4] = 0 := by decide +kernel
theorem cc8b : ccE v8 1 [4, 4, 4] = 7 := by decide +kernel

/-! ### Equal lists -/
theorem fields_rat : ∃ f0 f1 : Field, Try.prog.fieldsOf 36 = #[f0, f1] ∧ f0.type = 3 ∧ f1.type = 3 ∧ f0.offset = 0 ∧ f1.offset = 1 ∧ f0.name = "Num" ∧ f1.name = "Den" := by
  have ht : Try.prog.underlying 36 = some (.struct (Try.prog.fieldsOf 36)) := by kernel_rfl
  have h := Try.underlying36.symm.trans ht
  injection h with h
  injection h with h
  exact ⟨_, _, h.symm, rfl, rfl, rfl, rfl, rfl, rfl⟩
theorem rat_in (a b : Int) (W : World) : (Op.equalIn 10000 36 (.agg #[.int .i64 a, .int .i64 b]) (.agg #[.int .i64 a, .int .i64 b])).run Try.prog W = .ok true W := by
  have ht : Try.prog.underlying 36 = some (.struct (Try.prog.fieldsOf 36)) := by kernel_rfl
  have hp : Try.prog.stoodInHeld 36 = false := by kernel_rfl
  rw [run_equalIn_struct _ _ _ _ _ ht hp]
  obtain ⟨f0, f1, hf, t0, t1, o0, o1, n0, n1⟩ := fields_rat
  rw [hf]
  have hi := Try.underlying3
  simp [Op.eqFields, t0, t1, o0, o1, n0, n1, go_sem, hi]
theorem rat_ne (a b : Int) (W : World) : (binOp .neq 36 (.agg #[.int .i64 a, .int .i64 b]) (.agg #[.int .i64 a, .int .i64 b])).run Try.prog W = .ok (.bool false) W := by
  rw [run_neq_struct, rat_in]
  rfl
theorem guard_rat : Try.prog.eqGuardType Try.prog.depth 36 = false := by kernel_rfl
set_option maxRecDepth 4000 in
set_option maxHeartbeats 1000000 in
theorem SameRats_same (A A' : Option Addr) (n c c' : Nat) (l : List Int) (hl : l.length = n * 2) (hn : n ≤ 1000000) (w : World) (hr : Rd w w.heap.size A (ints l)) (hr' : Rd w w.heap.size A' (ints l)) :
    Calls Try.prog 28 #[.slice A n c, .slice A' n c'] w fun e w' => e = .returned (.bool true) ∧ ∃ m, w' = w.drewN m := by
  have HR := Lib.hid hr
  have HR' := Lib.hid hr'
  have HLn := Lib.hid hl
  have q1 := fun a b W => rat_ne a b W
  have gd := guard_rat
  clear hr hr' hl
  go_enter Try.func28, Try.ntmps28
  go_wp2_with fail
  go_loopw [5] (fun i wr => ∃ k : Nat, k ≤ n ∧ i = .int .i64 k ∧ ∃ m, wr = w.drewN m) (fun i _ => n - (intOf i).toNat)
  case atStart => exact ⟨0, by omega, rfl, 0, rfl⟩
  case round =>
    obtain ⟨k, hk, rfl, m, rfl⟩ := hrel
    by_cases hlt : k < n
    · have h2 : k * 2 < l.length := by have := HLn.out; omega
      have h3 : k * 2 + 1 < l.length := by have := HLn.out; omega
      obtain ⟨b1, o1, x, hA1, hx, hc1⟩ := HR.out.int (k * 2) h2
      obtain ⟨b1', o1', x', hA1', hx', hc1'⟩ := HR.out.int (k * 2 + 1) h3
      obtain ⟨b2, o2, y, hA2, hy, hc2⟩ := HR'.out.int (k * 2) h2
      obtain ⟨b2', o2', y', hA2', hy', hc2'⟩ := HR'.out.int (k * 2 + 1) h3
      have e1 : x = y := Option.some.inj (hx.out.symm.trans hy.out)
      have e2 : x' = y' := Option.some.inj (hx'.out.symm.trans hy'.out)
      subst e1 e2 hA1 hA2
      cases hA1'
      cases hA2'
      have b0 : (0 : Int) ≤ (k : Int) := by omega
      have b1' : (k : Int) < (n : Int) := by omega
      rw [← Nat.add_assoc] at hc1' hc2'
      clear hx hx' hy hy' h2 h3
      go_wp2_with fail
      go_quiet (fail)
      go_wp2_with fail
      go_roundw
      case rel => exact ⟨k + 1, by omega, by go_num, _, rfl⟩
      case measure => simp [intOf]; omega
    · have hks : k = n := by omega
      subst hks
      go_wp2_with fail
      go_ret
      exact ⟨rfl, _, rfl⟩
set_option maxRecDepth 4000 in
set_option maxHeartbeats 1000000 in
theorem SameInts_same (A A' : Option Addr) (n c c' : Nat) (l : List Int) (hl : l.length = n) (hn : n ≤ 1000000) (w : World) (hr : Rd w w.heap.size A (ints l)) (hr' : Rd w w.heap.size A' (ints l)) :
    Calls Try.prog 23 #[.slice A n c, .slice A' n c'] w fun e w' => e = .returned (.bool true) ∧ ∃ m, w' = w.drewN m := by
  have HR := Lib.hid hr
  have HR' := Lib.hid hr'
  have HLn := Lib.hid hl
  clear hr hr' hl
  go_enter Try.func23, Try.ntmps23
  go_wp2_with fail
  go_loopw [5] (fun i wr => ∃ k : Nat, k ≤ n ∧ i = .int .i64 k ∧ ∃ m, wr = w.drewN m) (fun i _ => n - (intOf i).toNat)
  case atStart => exact ⟨0, by omega, rfl, 0, rfl⟩
  case round =>
    obtain ⟨k, hk, rfl, m, rfl⟩ := hrel
    by_cases hlt : k < n
    · have h2 : k < l.length := by have := HLn.out; omega
      obtain ⟨b1, o1, x, hA1, hx, hc1⟩ := HR.out.int k h2
      obtain ⟨b2, o2, y, hA2, hy, hc2⟩ := HR'.out.int k h2
      have e1 : x = y := Option.some.inj (hx.out.symm.trans hy.out)
      subst e1 hA1 hA2
      have b0 : (0 : Int) ≤ (k : Int) := by omega
      have b1' : (k : Int) < (n : Int) := by omega
      clear hx hy h2
      go_wp2_with fail
      go_quiet (fail)
      go_wp2_with fail
      go_roundw
      case rel => exact ⟨k + 1, by omega, by go_num, _, rfl⟩
      case measure => simp [intOf]; omega
    · have hks : k = n := by omega
      subst hks
      go_wp2_with fail
      go_ret
      exact ⟨rfl, _, rfl⟩
theorem long_any (A A' : Option Addr) (n c n' c' : Nat) (hn : n ≤ 9223372036854775807) (hn' : n' ≤ 9223372036854775807) (w : World) :
    Calls Try.prog 15 #[.slice A n c, .slice A' n' c'] w fun e w' => e = .returned (.bool (decide (200 < n) || decide (200 < n'))) ∧ w = w' := by
  by_cases h : 200 < n
  · have e1 : decide ((200 : Int) < (n : Int)) = true := decide_eq_true (by omega)
    have e1' : decide (200 < n) = true := decide_eq_true h
    go_enter Try.func15, Try.ntmps15
    go_wp2_with fail
    go_ret
    exact ⟨by first | rfl | (rw [e1'] <;> rfl), rfl⟩
  · have e1 : decide ((200 : Int) < (n : Int)) = false := decide_eq_false (by omega)
    have e1' : decide (200 < n) = false := decide_eq_false h
    by_cases h2 : 200 < n'
    · have e2 : decide ((200 : Int) < (n' : Int)) = true := decide_eq_true (by omega)
      have e2' : decide (200 < n') = true := decide_eq_true h2
      go_enter Try.func15, Try.ntmps15
      go_wp2_with fail
      go_ret
      exact ⟨by first | rfl | (rw [e1', e2'] <;> rfl), rfl⟩
    · have e2 : decide ((200 : Int) < (n' : Int)) = false := decide_eq_false (by omega)
      have e2' : decide (200 < n') = false := decide_eq_false h2
      go_enter Try.func15, Try.ntmps15
      go_wp2_with fail
      go_ret
      exact ⟨by first | rfl | (rw [e1', e2'] <;> rfl), rfl⟩
end Go.Proofs.Ytfmhanpibgmgfaa

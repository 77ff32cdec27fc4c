/-
  Kinds of purses: what players add in an order is in the core of a convex one; the walks of gainsTogether at both tests, IsSuper, IsConvex of both sides. Conditions: the list can be read.
-/
import Derived.Test.YtfmhanpibgmgfaaPr3
namespace Go.Proofs.Ytfmhanpibgmgfaa
open Go.RowKit
set_option linter.unusedVariables false

/-- All pairs that are asked for gain together. -/
def gnB (v : List Int) (q : Nat → Nat → Bool) (g h : Nat) : Bool := !q g h || decide (nth v g + nth v h ≤ nth v (g ||| h) + nth v (g &&& h))
def kiB (v : List Int) (q : Nat → Nat → Bool) : Bool := (List.range v.length).all fun g => (List.range v.length).all fun h => gnB v q g h
def qS (g h : Nat) : Bool := decide (g &&& h = 0)
def qC (g h : Nat) : Bool := true
def kdB (v : List Int) (q : Nat → Nat → Bool) : Bool := if vdE v = 0 then kiB v q else false
theorem kiB_iff {v : List Int} {q : Nat → Nat → Bool} : kiB v q = true ↔ ∀ g h, g < v.length → h < v.length → gnB v q g h = true := by
  unfold kiB
  rw [List.all_eq_true]
  constructor
  · intro H g h hg hh
    exact List.all_eq_true.1 (H g (List.mem_range.2 hg)) h (List.mem_range.2 hh)
  · intro H g hg
    exact List.all_eq_true.2 fun h hh => H g h (List.mem_range.1 hg) (List.mem_range.1 hh)
theorem conv_super (v : List Int) (h : kiB v qC = true) : kiB v qS = true := by
  rw [kiB_iff] at *
  intro g k hg hk
  have := h g k hg hk
  unfold gnB at *
  rw [show qC g k = true from rfl, Bool.not_true, Bool.false_or] at this
  rw [this, Bool.or_true]
theorem kd_super (v : List Int) (h : kdB v qC = true) : kdB v qS = true := by
  unfold kdB at *
  split at h
  · rename_i h0
    rw [if_pos h0]
    exact conv_super v h
  · cases h
theorem bits_or {m g q : Nat} (h : g.testBit q = true) : m ||| (g &&& (m ||| 2 ^ q)) = m ||| 2 ^ q := by
  refine Nat.eq_of_testBit_eq fun i => ?_
  rw [Nat.testBit_or, Nat.testBit_and, Nat.testBit_or, Nat.testBit_two_pow]
  by_cases e : q = i
  · subst e
    rw [h]
    cases m.testBit q <;> simp
  · rw [decide_eq_false e]
    cases m.testBit i <;> simp
theorem bits_and {m g q : Nat} : m &&& (g &&& (m ||| 2 ^ q)) = g &&& m := by
  refine Nat.eq_of_testBit_eq fun i => ?_
  rw [Nat.testBit_and, Nat.testBit_and, Nat.testBit_or, Nat.testBit_and]
  cases m.testBit i <;> simp
theorem bits_out {m g q : Nat} (h : g.testBit q = false) : g &&& (m ||| 2 ^ q) = g &&& m := by
  refine Nat.eq_of_testBit_eq fun i => ?_
  rw [Nat.testBit_and, Nat.testBit_or, Nat.testBit_and, Nat.testBit_two_pow]
  by_cases e : q = i
  · subst e
    rw [h]
    simp
  · rw [decide_eq_false e, Bool.or_false]
/-- Each group gets at least what it is worth. -/
theorem marg_ge {v o : List Int} {n : Nat} (pv : Pv v n) (od : Ord o n) (hc : kiB v qC = true) (g : Nat) (hg : g < 2 ^ n) : ∀ k, k ≤ n → nth v (g &&& msk o k) ≤ getsF (stF v o k) g n
  | 0, _ => by
    have e : getsF (stF v o 0) g n = 0 := (sI_congr (g := fun _ => 0) fun i _ => by show (if g.testBit i then (0 : Int) else 0) = 0; split <;> rfl).trans (sI_zero n)
    rw [e, show msk o 0 = 0 from rfl, Nat.and_zero, pv.zero]
    omega
  | k + 1, hk => by
    have ih := marg_ge pv od hc g hg k (by omega)
    have hq := (plA_lt od (show k < n by omega)).1
    have hnew := stF_new (v := v) od (show k < n by omega) k (Nat.le_refl _)
    have hS : getsF (stF v o (k + 1)) g n = getsF (stF v o k) g n + if g.testBit (plA o k) = true then nth v (msk o (k + 1)) - nth v (msk o k) else 0 := by
      unfold getsF
      rw [sI_one (fun i => if g.testBit i then stF v o k i else 0) (fun i => if g.testBit i then stF v o (k + 1) i else 0) (plA o k) (if g.testBit (plA o k) = true then nth v (msk o (k + 1)) - nth v (msk o k) else 0) (fun i hi => ?_) ?_ n, if_pos hq]
      · show (if g.testBit (plA o k) then (if plA o k = plA o k then _ else _) else 0) = (if g.testBit (plA o k) then stF v o k (plA o k) else 0) + _
        rw [if_pos rfl, hnew]
        by_cases h : g.testBit (plA o k) = true
        · rw [if_pos h, if_pos h]; omega
        · rw [if_neg h, if_neg h]; omega
      · show (if g.testBit i then (if i = plA o k then _ else stF v o k i) else 0) = _
        rw [if_neg hi]
    rw [hS]
    have hmk : msk o (k + 1) = msk o k ||| 2 ^ plA o k := rfl
    by_cases h : g.testBit (plA o k) = true
    · rw [if_pos h]
      have hm := msk_lt od k (by omega)
      have hm1 := msk_lt od (k + 1) hk
      have hgm : g &&& msk o (k + 1) < 2 ^ n := Nat.and_lt_two_pow _ hm1
      have hcv := kiB_iff.1 hc (msk o k) (g &&& msk o (k + 1)) (by rw [pv.len]; exact hm) (by rw [pv.len]; exact hgm)
      unfold gnB at hcv
      rw [show qC _ _ = true from rfl, Bool.not_true, Bool.false_or, decide_eq_true_iff, hmk, bits_or h, bits_and] at hcv
      rw [hmk]
      omega
    · rw [if_neg h, hmk, bits_out (by simpa using h)]
      omega
theorem st_up {v o : List Int} (h : upB 1000 v = true) : ∀ k i, -2000 ≤ stF v o k i ∧ stF v o k i ≤ 2000
  | 0, i => by show -2000 ≤ (0 : Int) ∧ (0 : Int) ≤ 2000; omega
  | k + 1, i => by
    show -2000 ≤ (if i = plA o k then nth v (msk o (k + 1)) - nth v (msk o k) else stF v o k i) ∧ (if i = plA o k then nth v (msk o (k + 1)) - nth v (msk o k) else stF v o k i) ≤ 2000
    have h1 := upB_nth h (by omega) (msk o (k + 1))
    have h2 := upB_nth h (by omega) (msk o k)
    have h3 := st_up (o := o) h k i
    split <;> omega
theorem nth_row {F : Nat → Int} {n i : Nat} (h : i < n) : nth (rowF F n) i = F i := nth_get (rowF_get h)
/-- What players add in an order is in the core of a convex purse. -/
theorem marg_core {v o : List Int} (ho : orE v o = 0) (hc : kdB v qC = true) : ccE v 1 (mgL v o) = 0 := by
  obtain ⟨n, pv, hup, od, hv⟩ := orE_ok ho
  have hmg : mgL v o = rowF (stF v o n) n := by unfold mgL; rw [if_pos ho, od.len]
  have hk : kiB v qC = true := by unfold kdB at hc; rw [if_pos hv] at hc; exact hc
  rw [hmg]
  have hup2 : upB 10000000 (rowF (stF v o n) n) = true := List.all_eq_true.2 fun x hx => by
    obtain ⟨i, _, rfl⟩ := List.mem_map.1 hx
    have := st_up (o := o) hup n i
    exact inUp_iff.2 (by omega)
  have hpay : payE v 1 (rowF (stF v o n) n) = 0 := by
    unfold payE
    rw [if_pos hv, pv.pl, if_neg]
    unfold payBad
    rw [rowF_len, hup2]
    simp
  unfold ccE
  rw [if_pos hpay, if_pos]
  have hget : ∀ g, getsF (nth (rowF (stF v o n) n)) g n = getsF (stF v o n) g n := fun g => sI_congr fun i hi => by rw [nth_row hi]
  refine coreB_iff.2 ⟨?_, fun g hg => ?_⟩
  · unfold excF
    rw [rowF_len, hget, pv.len, gets_whole, st_sum od n (Nat.le_refl _), msk_all od, pv.zero]
    omega
  · unfold excF
    rw [rowF_len, hget]
    have hg2 : g < 2 ^ n := by rw [← pv.len]; exact hg
    have := marg_ge pv od hk g hg2 n (Nat.le_refl _)
    rw [msk_all od, Nat.and_two_pow_sub_one_eq_mod, Nat.mod_eq_of_lt hg2] at this
    omega
theorem askS_any (g h : Nat) (hg : g < 1000) (hh : h < 1000) (w : World) : Calls Try.prog 73 #[.int .i64 (g : Int), .int .i64 (h : Int)] w fun e w' => e = .returned (.bool (qS g h)) ∧ w = w' := by
  have ha : bits .and .i64 (g : Int) (h : Int) = ((g &&& h : Nat) : Int) := i64_and_nat g h (by omega) (by omega)
  have HX := Lib.hid (show (((g &&& h : Nat) : Int) == 0) = qS g h by
    unfold qS
    by_cases e : g &&& h = 0
    · rw [decide_eq_true e, e]; rfl
    · rw [decide_eq_false e, beq_eq_false_iff_ne]; omega)
  have HY := Lib.hid (show ((g &&& h) == 0) = qS g h by
    unfold qS
    by_cases e : g &&& h = 0
    · rw [decide_eq_true e, e]; rfl
    · rw [decide_eq_false e, beq_eq_false_iff_ne]; exact e)
  generalize qS g h = x at *
  generalize g &&& h = y at *
  go_enter Try.func73, Try.ntmps73
  go_wp2_with fail
  go_ret
  exact ⟨by first | (rw [← HX.out] <;> rfl) | (rw [← HY.out] <;> rfl), rfl⟩
theorem askC_any (g h : Nat) (hg : g < 1000) (hh : h < 1000) (w : World) : Calls Try.prog 74 #[.int .i64 (g : Int), .int .i64 (h : Int)] w fun e w' => e = .returned (.bool (qC g h)) ∧ w = w' := by
  go_enter Try.func74, Try.ntmps74
  go_wp2_with fail
  go_ret
  exact ⟨rfl, rfl⟩
end Go.Proofs.Ytfmhanpibgmgfaa

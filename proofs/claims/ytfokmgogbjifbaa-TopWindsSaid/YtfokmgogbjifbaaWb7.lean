/-
  Winds that are apart are never more than pipes that cover. No walk.
-/
import Derived.Test.YtfokmgogbjifbaaWi23
namespace Go.Proofs.Ytfokmgogbjifbaa
open Go.RowKit
set_option linter.unusedVariables false

theorem cntK_or (f g : Nat → Bool) : ∀ k, cntK (fun j => f j || g j) k ≤ cntK f k + cntK g k
  | 0 => Nat.le_refl _
  | k + 1 => by
    have := cntK_or f g k
    rw [cntK, cntK, cntK]
    cases f k <;> cases g k <;> simp <;> omega
/-- The winds of a set that the first k chosen pipes have are at most as many as these pipes. -/
theorem dual_k {l : List Pt} {S C : Nat → Bool} (h1 : ∀ (i : Nat) (a : Pt), l[i]? = some a → cntK (fun p => S p && hasN a p) 32 ≤ 1) : ∀ k, k ≤ l.length → cntK (fun p => S p && covK l C k p) 32 ≤ cntK C k
  | 0, _ => by
    rw [cntK_zero fun j _ => by simp [covK]]
    exact Nat.zero_le _
  | k + 1, hk => by
    have ih := dual_k h1 (C := C) k (by omega)
    have hx : l[k]? = some l[k] := List.getElem?_eq_getElem (by omega)
    have h2 := h1 k _ hx
    have e : cntK C (k + 1) = cntK C k + if C k then 1 else 0 := rfl
    rw [e]
    cases hc : C k
    · rw [cntK_congr (g := fun p => S p && covK l C k p) fun p _ => by rw [covK_next, hc]; simp, if_neg (by decide)]
      exact ih
    · have h3 := cntK_or (fun p => S p && covK l C k p) (fun p => S p && hasN l[k] p) 32
      rw [cntK_congr (g := fun p => (S p && covK l C k p) || (S p && hasN l[k] p)) fun p _ => by rw [covK_next, hc, workB_at hx]; cases S p <;> simp, if_pos rfl]
      omega
theorem dual {l : List Pt} {S C : Nat → Bool} (h1 : ∀ (i : Nat) (a : Pt), l[i]? = some a → cntK (fun p => S p && hasN a p) 32 ≤ 1) (h2 : covN l C = 4294967295) : cntK S 32 ≤ cntK C l.length := by
  have h := dual_k h1 (C := C) l.length (Nat.le_refl _)
  rw [cntK_congr (g := S) fun p hp => by
    have : covB l C p = true := by
      cases hb : covB l C p
      · exact absurd h2 (cov_lack hp hb)
      · rfl
    unfold covB at this
    rw [this, Bool.and_true]] at h
  exact h
theorem set_len {k : Nat} {L : List Int} (h : setL (k : Int) L = true) : L.length = cntK (memB L) k := by
  rw [← cntK_list, setL_list h]
theorem apB_at {l : List Pt} {L : List Int} (h : apB l L = true) {i : Nat} {a : Pt} (hx : l[i]? = some a) : cntK (fun p => memB L p && hasN a p) 32 ≤ 1 :=
  of_decide_eq_true (List.all_eq_true.1 h a (List.mem_of_getElem? hx))
/-- Winds that are apart, and pipes that cover. -/
theorem apart_cover {l : List Pt} {W C : List Int} (hw : setL 32 W = true) (ha : apB l W = true) (hc : setL l.length C = true) (hv : covN l (memB C) = 4294967295) : W.length ≤ C.length := by
  rw [set_len (k := 32) hw, set_len hc]
  exact dual (fun i a hx => apB_at ha hx) hv
theorem workN_test {l : List Pt} {p i : Nat} : (workN l p).testBit i = (decide (i < l.length) && workB l p i) := by
  by_cases h : i < l.length
  · unfold workN
    rw [bitK_test _ _ _ h, decide_eq_true h, Bool.true_and]
  · unfold workN
    rw [bitK_high _ (by omega), decide_eq_false h, Bool.false_and]
theorem full_test {n j : Nat} : (2 ^ n - 1).testBit j = decide (j < n) := Nat.testBit_two_pow_sub_one n j
/-- A list of winds that are apart is a set of the kind that Apart looks for, where each wind has a pipe. -/
theorem apart_good {l : List Pt} {W : List Int} (hw : setL 32 W = true) (ha : apB l W = true) (hall : ∀ p, p < 32 → covB l (fun _ => true) p = true) : Good (workN l) (2 ^ l.length - 1) (gatN W) ∧ cnt (gatN W) = W.length := by
  have hg : ∀ p, p < 32 → (gatN W).testBit p = memB W p := fun p hp => bitK_test _ _ _ hp
  refine ⟨⟨bit32 _, ?_, ?_⟩, ?_⟩
  · intro p hp hpt
    constructor
    · have h := hall p hp
      unfold covB covK at h
      rw [List.any_eq_true] at h
      obtain ⟨i, hi, hb⟩ := h
      rw [List.mem_range] at hi
      intro h0
      have ht := workN_test (l := l) (p := p) (i := i)
      rw [h0, Nat.zero_testBit, decide_eq_true hi] at ht
      simp at hb ht
      rw [hb] at ht
      cases ht
    · intro j hj
      rw [workN_test] at hj
      rw [full_test]
      simp at hj
      simpa using hj.1
  · intro p q hp hq hne hpt hqt j hj
    rw [hg p hp] at hpt
    rw [hg q hq] at hqt
    cases hb : (workN l q).testBit j
    · rfl
    · rw [workN_test] at hj hb
      simp at hj hb
      have hx : l[j]? = some l[j] := List.getElem?_eq_getElem hj.1
      have h1 := apB_at ha hx
      have e1 : hasN l[j] p = true := by rw [← workB_at hx]; exact hj.2
      have e2 : hasN l[j] q = true := by rw [← workB_at hx]; exact hb.2
      exfalso
      have two : 2 ≤ cntK (fun p => memB W p && hasN l[j] p) 32 := by
        have m1 := cntK_more (f := fun x => (memB W x && hasN l[j] x) && decide (x ≠ p)) (g := fun p => memB W p && hasN l[j] p) (w := p) (by simp) (by simp [hpt, e1]) (k := 32) (fun j _ hn => by simp [hn])
        rw [if_pos hp] at m1
        have m2 : 0 < cntK (fun x => (memB W x && hasN l[j] x) && decide (x ≠ p)) 32 := by
          rcases Nat.eq_zero_or_pos (cntK (fun x => (memB W x && hasN l[j] x) && decide (x ≠ p)) 32) with h0 | h0
          · have m3 := cntK_more (f := fun x => ((memB W x && hasN l[j] x) && decide (x ≠ p)) && decide (x ≠ q)) (g := fun x => (memB W x && hasN l[j] x) && decide (x ≠ p)) (w := q) (by simp) (by simp [hqt, e2, Ne.symm hne]) (k := 32) (fun j _ hn => by simp [hn])
            rw [if_pos hq] at m3
            omega
          · exact h0
        omega
      omega
  · unfold cnt
    rw [set_len (k := 32) hw]
    exact cntK_congr fun j hj => hg j hj
/-- The list that Apart returns: apart, each wind has a pipe. -/
theorem apV_good {l : List Pt} (h10 : l.length ≤ 10) : setL 32 (listB (apM l).testBit) = true ∧ apB l (listB (apM l).testBit) = true ∧ (listB (apM l).testBit).length = cnt (apM l) := by
  obtain ⟨⟨h1, h2, h3⟩, _⟩ := apM_most h10
  refine ⟨setL_listK _ 32, ?_, cntK_list _ 32⟩
  refine apB_ok fun j a hj hx => ?_
  unfold apC
  rw [cntK_congr (g := fun p => (apM l).testBit p && (workN l p).testBit j) fun p hp => by
    have : memB (listB (apM l).testBit) p = (apM l).testBit p := memB_listK _ _ _ hp
    rw [this, workN_test, decide_eq_true hj, workB_at hx, Bool.true_and]]
  rcases Nat.lt_or_ge 1 (cntK (fun p => (apM l).testBit p && (workN l p).testBit j) 32) with h | h
  · exfalso
    obtain ⟨p, hp, hpt⟩ := cntK_pos (f := fun p => (apM l).testBit p && (workN l p).testBit j) (k := 32) (by omega)
    have m := cntK_more (f := fun x => ((apM l).testBit x && (workN l x).testBit j) && decide (x ≠ p)) (g := fun p => (apM l).testBit p && (workN l p).testBit j) (w := p) (by simp) hpt (k := 32) (fun j _ hn => by simp [hn])
    rw [if_pos hp] at m
    obtain ⟨q, hq, hqt⟩ := cntK_pos (f := fun x => ((apM l).testBit x && (workN l x).testBit j) && decide (x ≠ p)) (k := 32) (by omega)
    simp at hpt hqt
    have := h3 p q hp hq (fun e => hqt.2 e.symm) hpt.1 hqt.1.1 j hpt.2
    rw [this] at hqt
    cases hqt.1.2
  · exact h
/-- The fewest are at most as many. -/
theorem few_le {l : List Pt} {C : List Int} (h0 : pipesE l = 0) (hc : setL l.length C = true) (hv : covN l (memB C) = 4294967295) : fewOk l = true ∧ (fewL l).length ≤ C.length ∧ ∃ P, fewL l = listK (Nat.testBit P) l.length ∧ covN l P.testBit = 4294967295 := by
  have hm : bitK (memB C) l.length < 2 ^ l.length := bitK_lt _ _
  have hp := Nat.two_pow_pos l.length
  have hcov : covF l (bitK (memB C) l.length) = true := by
    unfold covF
    rw [covN_congr (g := memB C) fun i hi => bitK_test _ _ _ hi]
    exact decide_eq_true hv
  have hall := covF_mono hcov
  have hok : fewOk l = true := by unfold fewOk; rw [hall, h0]; rfl
  obtain ⟨h1, h2, h3⟩ := fewP_min hall (2 ^ l.length - 1)
  have hPl := fewP_lt (l := l) (Nat.le_refl (2 ^ l.length - 1))
  obtain ⟨h10, _⟩ := pipesE_zero h0
  have hL : fewL l = listB (fewP l (2 ^ l.length - 1)).testBit := by unfold fewL; rw [if_pos hok]
  refine ⟨hok, ?_, fewP l (2 ^ l.length - 1), ?_, of_decide_eq_true h1⟩
  · have h4 : ltF (bitK (memB C) l.length) (fewP l (2 ^ l.length - 1)) = false := by
      rcases Nat.lt_or_ge (bitK (memB C) l.length) (2 ^ l.length - 1) with h | h
      · exact h3 _ h hcov
      · have e : bitK (memB C) l.length = 2 ^ l.length - 1 := by omega
        rw [e]
        exact h2
    have e1 : (listB (bitK (memB C) l.length).testBit).length = C.length := by
      rw [listB_bits _ (by omega), setL_list hc]
    unfold ltF at h4
    have h5 := of_decide_eq_false h4
    rw [hL]
    rcases Nat.lt_or_ge C.length (listB (fewP l (2 ^ l.length - 1)).testBit).length with h | h
    · exfalso
      refine h5 ?_
      rw [cfI_lt (by omega)]
      decide
    · exact h
  · rw [hL]
    exact listB_small (by omega) (by omega)
end Go.Proofs.Ytfokmgogbjifbaa

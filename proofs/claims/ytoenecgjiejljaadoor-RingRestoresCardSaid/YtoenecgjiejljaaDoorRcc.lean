/-
  What is counted and what is restored belong together. No program in sight.
-/
import Derived.Test.YtoenecgjiejljaaDoorRca
namespace Go.Proofs.YtoenecgjiejljaaDoor
open Go.RowKit
set_option linter.unusedVariables false

theorem fits_rT {s : ByteArray} (h : formB s true = true) {D : List Int} (hD : D.length = 6) (hdd : ∀ x ∈ D, Dig x) (hf : ∀ (i : Nat) (x : Int), (wL s)[i]? = some x → x = -1 ∨ D[i]? = some x) : fitsB s (rT (hdF (bl (headB s))) D) = true := by
  have hs := form_size h
  have hhl : (hdF (bl (headB s))).length = s.size - 6 := by unfold hdF; rw [List.length_map, bl_len]; simp [headB]
  refine fitsB_ok (by rw [rT_size hD, hhl]; omega) fun i hi => ?_
  by_cases hk : i < s.size - 6
  · by_cases h63 : bAt s i = 63
    · exact .inl h63
    · refine .inr ?_
      have hib : i < (bl (headB s)).length := by rw [bl_len]; simp [headB]; omega
      have e1 : bAt (rT (hdF (bl (headB s))) D) i = (((hdF (bl (headB s)))[i]'(by omega)).toNat : Int) := by
        unfold rT
        rw [bAt_sL, List.getD_eq_getElem?_getD, List.getElem?_append_left (by omega), List.getElem?_eq_getElem (by omega)]
        rfl
      have e2 : bAt s i = (((bl (headB s))[i]'hib).toNat : Int) := by
        have h1 : bAt (headB s) i = bAt s i := by unfold headB; rw [bAt_extract _ _ _ _ (by omega), Nat.zero_add]
        rw [← h1]
        unfold bAt
        rw [List.getD_eq_getElem?_getD, show (headB s).data.toList = bl (headB s) from rfl, List.getElem?_eq_getElem hib]
        rfl
      rw [e1]
      have e3 : (hdF (bl (headB s)))[i]'(by omega) = (bl (headB s))[i]'hib := by
        unfold hdF
        rw [List.getElem_map, if_neg]
        intro e
        rw [e] at e2
        exact h63 e2
      rw [e3, e2]
  · obtain ⟨j, rfl⟩ : ∃ j, i = s.size - 6 + j := ⟨i - (s.size - 6), by omega⟩
    have hj : j < 6 := by omega
    rcases form_byte h hj with h63 | hdg
    · exact .inl h63
    · refine .inr ?_
      have hat : (wL s)[j]? = some (bAt s (s.size - 6 + j) - 48) := by
        unfold wL wlK
        rw [List.getElem?_map, List.getElem?_range hj]
        show some (wnI _) = _
        unfold wnI
        rw [if_neg (by omega)]
      rcases hf j _ hat with hneg | hDj
      · omega
      · have e1 : bAt (rT (hdF (bl (headB s))) D) (s.size - 6 + j) = ((dgB (bAt s (s.size - 6 + j) - 48)).toNat : Int) := by
          unfold rT
          rw [bAt_sL, List.getD_eq_getElem?_getD, List.getElem?_append_right (by omega), hhl, Nat.add_sub_cancel_left, List.getElem?_map, hDj]
          rfl
        rw [e1]
        have := dgB_num (d := bAt s (s.size - 6 + j) - 48) ⟨by omega, by omega⟩
        omega
theorem fill0_at {l : List Int} (hw : WDig l) : ∀ (i : Nat) (x : Int), l[i]? = some x → x = -1 ∨ (fill0 l)[i]? = some x := by
  intro i x hx
  rcases hw x (List.mem_of_getElem? hx) with h | h
  · exact .inl h
  · refine .inr ?_
    unfold fill0
    rw [List.getElem?_map, hx, Option.map_some, if_neg (by have := h.1; omega)]
theorem fill1_at {a b : List Int} {d : Int} (ha : WDig a) : ∀ (i : Nat) (x : Int), (a ++ (-1) :: b)[i]? = some x → x = -1 ∨ (fill0 a ++ d :: b)[i]? = some x := by
  intro i x hx
  rcases Nat.lt_trichotomy i a.length with h | h | h
  · rw [List.getElem?_append_left h] at hx
    rcases fill0_at ha i x hx with h1 | h1
    · exact .inl h1
    · exact .inr (by rw [List.getElem?_append_left (by rw [fill0_len]; exact h)]; exact h1)
  · subst h
    rw [List.getElem?_append_right (Nat.le_refl _), Nat.sub_self] at hx
    exact .inl (by simpa using hx.symm)
  · refine .inr ?_
    obtain ⟨j, hj⟩ : ∃ j, i - a.length = j + 1 := ⟨i - a.length - 1, by omega⟩
    rw [List.getElem?_append_right (by omega), hj, List.getElem?_cons_succ] at hx
    rw [List.getElem?_append_right (by rw [fill0_len]; omega), fill0_len, hj, List.getElem?_cons_succ]
    exact hx
/-- The first ring fits, and there is none exactly if none is counted. -/
theorem fr_fits {s : ByteArray} (hb : frB s = true) : 0 < ctV s ∧ fitsE s (frS s) = 0 ∧ fitsV s (frS s) = true ∧ (frS s).size = s.size := by
  have hf : formB s true = true := by
    unfold frB at hb
    cases h : formB s true
    · rw [h] at hb; cases hb
    · rfl
  have hy : wyL (wL s) 0 ≠ 0 := by
    unfold frB at hb
    rw [hf, Bool.true_and, decide_eq_true_eq] at hb
    exact hb
  have hs := form_size hf
  have hhl : (hdF (bl (headB s))).length = s.size - 6 := by unfold hdF; rw [List.length_map, bl_len]; simp [headB]
  have hwl : (wL s).length = 6 := wlK_length s 6
  have hwd := wl_dig hf
  have key : ∃ D : List Int, D.length = 6 ∧ (∀ x ∈ D, Dig x) ∧ sumL D = 0 ∧ (∀ (i : Nat) (x : Int), (wL s)[i]? = some x → x = -1 ∨ D[i]? = some x) ∧ frS s = rT (hdF (bl (headB s))) D := by
    rcases fr_cases hf with ⟨h1, h2, h3⟩ | ⟨h1, h0, h2, h3⟩ | ⟨h1, a, b, he, hnb, h2, h3⟩
    · exact ⟨_, by rw [fill0_len, hwl], fill0_dig hwd, h1, fill0_at hwd, h3⟩
    · rw [hb] at h2; cases h2
    · obtain ⟨ha, hbd⟩ := wdig_parts (by rw [← he]; exact hwd) hnb
      have hal : a.length + 1 + b.length = 6 := by rw [he] at hwl; simp at hwl; omega
      obtain ⟨d1, d2⟩ := dst_lt (fill0_dig ha) hbd (by omega)
      refine ⟨_, by rw [List.length_append, fill0_len, List.length_cons]; omega, fun x hx => ?_, d2, by rw [he]; exact fill1_at ha, h3⟩
      rcases List.mem_append.1 hx with hx | hx
      · exact fill0_dig ha x hx
      · rcases List.mem_cons.1 hx with rfl | hx
        · exact nat_dig d1
        · exact hbd x hx
  obtain ⟨D, hD, hdd, hsum, hfit, hfr⟩ := key
  have hv : validE (frS s) = 0 := by rw [hfr, rT_valid (hd_lett hf) hD hdd, if_pos hsum]
  refine ⟨?_, ?_, ?_, ?_⟩
  · unfold ctV
    rw [if_pos hf]
    have h1 : 0 < 26 ^ wb (bl (headB s)) := Nat.pow_pos (by omega)
    have h2 : 0 < wyL (wL s) 0 := by omega
    have := Nat.mul_pos h1 h2
    omega
  · unfold fitsE; rw [if_pos hf, hv]
  · unfold fitsV
    rw [if_pos hf, if_pos hv, hfr]
    exact fits_rT hf hD hdd hfit
  · rw [hfr, rT_size hD, hhl]; omega
theorem fr_none {s : ByteArray} (hb : frB s = false) : (ctE s = 2 ∧ ctV s = 0) ∨ (ctE s = 0 ∧ ctV s = 0) := by
  unfold frB at hb
  unfold ctE ctV
  cases h : formB s true
  · exact .inl ⟨rfl, rfl⟩
  · rw [h, Bool.true_and, decide_eq_false_iff_not] at hb
    refine .inr ⟨rfl, ?_⟩
    have : wyL (wL s) 0 = 0 := by omega
    rw [if_pos rfl, this]
    rfl
end Go.Proofs.YtoenecgjiejljaaDoor

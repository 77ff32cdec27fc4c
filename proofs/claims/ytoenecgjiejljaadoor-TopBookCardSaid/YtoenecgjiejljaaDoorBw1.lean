/-
  The text of a book and its beginnings, as they are read. No program in sight.
-/
import Derived.Test.YtoenecgjiejljaaDoorBhg
namespace Go.Proofs.YtoenecgjiejljaaDoor
open Go.RowKit
set_option linter.unusedVariables false

theorem pgl_no10 {l : List UInt8} (h : pgl l = true) : (10 : UInt8) ∉ l := by
  intro hm
  unfold pgl at h
  simp only [Bool.and_eq_true, List.all_eq_true] at h
  have := h.2 _ hm
  exact absurd this (by decide)
theorem ln_page {f r : List UInt8} (h : pgl f = true) : lnO (f ++ 10 :: r) = some (f, r) := lnO_some.2 ⟨rfl, pgl_no10 h⟩
theorem ln_part {f q : List UInt8} (h : pgl f = true) {r : Nat} (hr : r ≤ f.length) : lnO ((f ++ 10 :: q).take r) = none := by
  rw [lnO_none, List.take_append_of_le_length hr]
  exact fun hm => pgl_no10 h (List.mem_of_mem_take hm)
theorem wrB_cons (s : ByteArray) (l : List ByteArray) : wrB (s :: l) = bl s ++ 10 :: wrB l := by unfold wrB; simp
theorem tk_part : ∀ (l : List ByteArray), (∀ s ∈ l, pgB s = true) → ∀ r : Nat, ∃ j q, j ≤ l.length ∧ tk l.length ((wrB l).take r) = ((l.map bl).take j, q) ∧ ((wrB l).take r).length = (wrB (l.take j)).length + q.length ∧ ((wrB l).length ≤ r → j = l.length ∧ q = [])
  | [], _, r => ⟨0, [], by simp, by simp [wrB, tk], by simp [wrB], fun _ => ⟨rfl, rfl⟩⟩
  | s :: l, h, r => by
    have hp : pgl (bl s) = true := by rw [← pgB_pgl]; exact h s (by simp)
    by_cases hr : r ≤ (bl s).length
    · refine ⟨0, (wrB (s :: l)).take r, by simp, ?_, by simp [wrB], fun hle => ?_⟩
      · rw [wrB_cons, tk_none (ln_part hp hr)]; rfl
      · rw [wrB_cons] at hle; simp at hle; omega
    · obtain ⟨j, q, hj, ht, hl, hf⟩ := tk_part l (fun x hx => h x (by simp [hx])) (r - (bl s).length - 1)
      obtain ⟨m, hm⟩ : ∃ m, r - (bl s).length = m + 1 := ⟨r - (bl s).length - 1, by omega⟩
      have hm' : r - (bl s).length - 1 = m := by omega
      rw [hm'] at ht hl hf
      have e : (wrB (s :: l)).take r = bl s ++ 10 :: (wrB l).take m := by
        rw [wrB_cons, List.take_append, List.take_of_length_le (by omega), hm, List.take_succ_cons]
      refine ⟨j + 1, q, by simp; omega, ?_, ?_, fun hle => ?_⟩
      · rw [e, List.length_cons, tk_good (ln_page hp) hp, ht]
        simp
      · rw [e, List.take_succ_cons, wrB_cons]
        simp only [List.length_append, List.length_cons]
        omega
      · rw [wrB_cons] at hle
        simp only [List.length_append, List.length_cons] at hle
        obtain ⟨h1, h2⟩ := hf (by omega)
        exact ⟨by simp [h1], h2⟩
theorem map_sL_bl (l : List ByteArray) : (l.map bl).map sL = l := by
  rw [List.map_map]
  conv => rhs; rw [← List.map_id l]
  exact List.map_congr_left fun s _ => sL_bl s
theorem wr_read {l : List ByteArray} (hv : vpE l = 0) (r : Nat) : ∃ j q, j ≤ l.length ∧ rdE (hdL l.length (rt (smsL l)).toNat ++ (wrB l).take r) = 0 ∧ rdP (hdL l.length (rt (smsL l)).toNat ++ (wrB l).take r) = (l.map bl).take j ∧
    rdR (hdL l.length (rt (smsL l)).toNat ++ (wrB l).take r) = q ∧ ((wrB l).take r).length = (wrB (l.take j)).length + q.length ∧ ((wrB l).length ≤ r → j = l.length ∧ q = []) := by
  obtain ⟨h64, hp⟩ := vpE_ok hv
  obtain ⟨j, q, hj, ht, hl, hf⟩ := tk_part l hp r
  obtain ⟨s0, s1⟩ := rt_sm (smsL_sm l)
  have hh : IsHd (canon l.length (rt (smsL l)).toNat) l.length (rt (smsL l)).toNat := ⟨h64, by omega, rfl⟩
  have e : hdL l.length (rt (smsL l)).toNat ++ (wrB l).take r = canon l.length (rt (smsL l)).toNat ++ 10 :: (wrB l).take r := by unfold hdL; simp
  have hH := rdH_some (ln_page (r := (wrB l).take r) (hd_page hh)) (hdO_some.2 hh)
  rw [← e] at hH
  obtain ⟨e1, e2, _, e4⟩ := rd_some hH ht (by
    rintro ⟨h1, h2⟩
    refine h2 ?_
    rw [List.length_take, List.length_map] at h1
    rw [List.take_of_length_le (by rw [List.length_map]; omega), map_sL_bl]
    omega)
  exact ⟨j, q, hj, e1, e2, e4, hl, hf⟩
/-- The whole text. -/
theorem wr_full {l : List ByteArray} (hv : vpE l = 0) : rdE (wrL l) = 0 ∧ rdP (wrL l) = l.map bl ∧ rdR (wrL l) = [] ∧ wlB (wrL l) = true := by
  obtain ⟨h64, hp⟩ := vpE_ok hv
  obtain ⟨j, q, hj, ht, hl, hf⟩ := tk_part l hp (wrB l).length
  obtain ⟨e1, e2⟩ := hf (Nat.le_refl _)
  subst e1 e2
  rw [List.take_length, List.take_of_length_le (by rw [List.length_map]; exact Nat.le_refl _)] at ht
  obtain ⟨s0, s1⟩ := rt_sm (smsL_sm l)
  have hh : IsHd (canon l.length (rt (smsL l)).toNat) l.length (rt (smsL l)).toNat := ⟨h64, by omega, rfl⟩
  have e : wrL l = canon l.length (rt (smsL l)).toNat ++ 10 :: wrB l := by unfold wrL hdL; simp
  have hH := rdH_some (ln_page (r := wrB l) (hd_page hh)) (hdO_some.2 hh)
  rw [← e] at hH
  obtain ⟨e1, e2, e3, e4⟩ := rd_some hH ht (by
    rintro ⟨h1, h2⟩
    refine h2 ?_
    rw [map_sL_bl]
    omega)
  refine ⟨e1, e2, e4, ?_⟩
  unfold wlB
  rw [e2, e3, e4, List.length_map]
  simp
theorem cm_self_take (l : List ByteArray) (n : Nat) (hn : n ≤ l.length) : cmN (l.take n) l = n := by
  have hlt : (l.take n).length = n := by rw [List.length_take]; omega
  refine cm_of _ _ _ (fun j hj => ⟨by rw [List.getElem?_take, if_pos hj], by omega⟩) (.inl (by omega))
theorem mg_take {l : List ByteArray} (hv : vpE l = 0) {n : Nat} (hn : n ≤ l.length) : mgO (wrL (l.take n)) (wrL l) = (wrL l, (l.length : Int), 0) := by
  obtain ⟨a1, a2, a3, a4⟩ := wr_full hv
  obtain ⟨b1, b2, b3, b4⟩ := wr_full (vpE_take hv n)
  have hlt : (l.take n).length = n := by rw [List.length_take]; omega
  rw [mg_rest b1 a1 (by rw [a4, b4]; rfl), a2, b2, map_sL_bl, map_sL_bl, cm_self_take l n hn, List.length_map, List.length_map, hlt, if_neg (by omega)]
  by_cases h : n < l.length
  · rw [if_pos h]
  · have : n = l.length := by omega
    subst this
    rw [if_neg (by omega), List.take_length]
end Go.Proofs.YtoenecgjiejljaaDoor

/-
  Texts merged into one (Rcc, Rcd): contracts of the functions of package lure, what is reckoned of games. Conditions: as each says.
-/
import Derived.Test.YtoenecgjiejljaaDoorMt23
namespace Go.Proofs.YtoenecgjiejljaaDoor
open Go.RowKit
set_option linter.unusedVariables false

theorem fits_rT {s : ByteArray} (h : formB s true = true) {D : List Int} (hD : D.length = 6) (hdd : ∀ x ∈ D, Dig x) (hf : ∀ (i : Nat) (x : Int), (wL s)[i]? = some x → x = -1 ∨ D[i]? = some x) : fitsB s (rT (hdF (bl (headB s))) D) = true := by
  have hs := form_size h
  have hhl : (hdF (bl (headB s))).length = s.size - 6 := by unfold hdF; rw [List.length_map, bl_len]; simp [headB]
  refine fitsB_ok (by rw [rT_size hD, hhl]; omega) fun i hi => ?_
  by_cases hk : i < s.size - 6
  · by_cases h63 : bAt s i = 63
    · exact .inl h63
    · refine .inr ?_
      have hib : i < (bl (headB s)).length := by rw [bl_len]; simp [headB]; omega
      have e1 : bAt (rT (hdF (bl (headB s))) D) i = (((hdF (bl (headB s)))[i]'(by omega)).toNat : Int) := by
        unfold rT
        rw [bAt_sL, List.getD_eq_getElem?_getD, List.getElem?_append_left (by omega), List.getElem?_eq_getElem (by omega)]
        rfl
      have e2 : bAt s i = (((bl (headB s))[i]'hib).toNat : Int) := by
        have h1 : bAt (headB s) i = bAt s i := by unfold headB; rw [bAt_extract _ _ _ _ (by omega), Nat.zero_add]
        rw [← h1]
        unfold bAt
        rw [List.getD_eq_getElem?_getD, show (headB s).data.toList = bl (headB s) from rfl, List.getElem?_eq_getElem hib]
        rfl
      rw [e1]
      have e3 : (hdF (bl (headB s)))[i]'(by omega) = (bl (headB s))[i]'hib := by
        unfold hdF
        rw [List.getElem_map, if_neg]
        intro e
        rw [e] at e2
        exact h63 e2
      rw [e3, e2]
  · obtain ⟨j, rfl⟩ : ∃ j, i = s.size - 6 + j := ⟨i - (s.size - 6), by omega⟩
    have hj : j < 6 := by omega
    rcases form_byte h hj with h63 | hdg
    · exact .inl h63
    · refine .inr ?_
      have hat : (wL s)[j]? = some (bAt s (s.size - 6 + j) - 48) := by
        unfold wL wlK
        rw [List.getElem?_map, List.getElem?_range hj]
        show some (wnI _) = _
        unfold wnI
        rw [if_neg (by omega)]
      rcases hf j _ hat with hneg | hDj
      · omega
      · have e1 : bAt (rT (hdF (bl (headB s))) D) (s.size - 6 + j) = ((dgB (bAt s (s.size - 6 + j) - 48)).toNat : Int) := by
          unfold rT
          rw [bAt_sL, List.getD_eq_getElem?_getD, List.getElem?_append_right (by omega), hhl, Nat.add_sub_cancel_left, List.getElem?_map, hDj]
          rfl
        rw [e1]
        have := dgB_num (d := bAt s (s.size - 6 + j) - 48) ⟨by omega, by omega⟩
        omega
theorem fill0_at {l : List Int} (hw : WDig l) : ∀ (i : Nat) (x : Int), l[i]? = some x → x = -1 ∨ (fill0 l)[i]? = some x := by
  intro i x hx
  rcases hw x (List.mem_of_getElem? hx) with h | h
  · exact .inl h
  · refine .inr ?_
    unfold fill0
    rw [List.getElem?_map, hx, Option.map_some, if_neg (by have := h.1; omega)]
theorem fill1_at {a b : List Int} {d : Int} (ha : WDig a) : ∀ (i : Nat) (x : Int), (a ++ (-1) :: b)[i]? = some x → x = -1 ∨ (fill0 a ++ d :: b)[i]? = some x := by
  intro i x hx
  rcases Nat.lt_trichotomy i a.length with h | h | h
  · rw [List.getElem?_append_left h] at hx
    rcases fill0_at ha i x hx with h1 | h1
    · exact .inl h1
    · exact .inr (by rw [List.getElem?_append_left (by rw [fill0_len]; exact h)]; exact h1)
  · subst h
    rw [List.getElem?_append_right (Nat.le_refl _), Nat.sub_self] at hx
    exact .inl (by simpa using hx.symm)
  · refine .inr ?_
    obtain ⟨j, hj⟩ : ∃ j, i - a.length = j + 1 := ⟨i - a.length - 1, by omega⟩
    rw [List.getElem?_append_right (by omega), hj, List.getElem?_cons_succ] at hx
    rw [List.getElem?_append_right (by rw [fill0_len]; omega), fill0_len, hj, List.getElem?_cons_succ]
    exact hx
/-- The first ring fits, and there is none exactly if none is counted. -/
theorem fr_fits {s : ByteArray} (hb : frB s = true) : 0 < ctV s ∧ fitsE s (frS s) = 0 ∧ fitsV s (frS s) = true ∧ (frS s).size = s.size := by
  have hf : formB s true = true := by
    unfold frB at hb
    cases h : formB s true
    · rw [h] at hb; cases hb
    · rfl
  have hy : wyL (wL s) 0 ≠ 0 := by
    unfold frB at hb
    rw [hf, Bool.true_and, decide_eq_true_eq] at hb
    exact hb
  have hs := form_size hf
  have hhl : (hdF (bl (headB s))).length = s.size - 6 := by unfold hdF; rw [List.length_map, bl_len]; simp [headB]
  have hwl : (wL s).length = 6 := wlK_length s 6
  have hwd := wl_dig hf
  have key : ∃ D : List Int, D.length = 6 ∧ (∀ x ∈ D, Dig x) ∧ sumL D = 0 ∧ (∀ (i : Nat) (x : Int), (wL s)[i]? = some x → x = -1 ∨ D[i]? = some x) ∧ frS s = rT (hdF (bl (headB s))) D := by
    rcases fr_cases hf with ⟨h1, h2, h3⟩ | ⟨h1, h0, h2, h3⟩ | ⟨h1, a, b, he, hnb, h2, h3⟩
    · exact ⟨_, by rw [fill0_len, hwl], fill0_dig hwd, h1, fill0_at hwd, h3⟩
    · rw [hb] at h2; cases h2
    · obtain ⟨ha, hbd⟩ := wdig_parts (by rw [← he]; exact hwd) hnb
      have hal : a.length + 1 + b.length = 6 := by rw [he] at hwl; simp at hwl; omega
      obtain ⟨d1, d2⟩ := dst_lt (fill0_dig ha) hbd (by omega)
      refine ⟨_, by rw [List.length_append, fill0_len, List.length_cons]; omega, fun x hx => ?_, d2, by rw [he]; exact fill1_at ha, h3⟩
      rcases List.mem_append.1 hx with hx | hx
      · exact fill0_dig ha x hx
      · rcases List.mem_cons.1 hx with rfl | hx
        · exact nat_dig d1
        · exact hbd x hx
  obtain ⟨D, hD, hdd, hsum, hfit, hfr⟩ := key
  have hv : validE (frS s) = 0 := by rw [hfr, rT_valid (hd_lett hf) hD hdd, if_pos hsum]
  refine ⟨?_, ?_, ?_, ?_⟩
  · unfold ctV
    rw [if_pos hf]
    have h1 : 0 < 26 ^ wb (bl (headB s)) := Nat.pow_pos (by omega)
    have h2 : 0 < wyL (wL s) 0 := by omega
    have := Nat.mul_pos h1 h2
    omega
  · unfold fitsE; rw [if_pos hf, hv]
  · unfold fitsV
    rw [if_pos hf, if_pos hv, hfr]
    exact fits_rT hf hD hdd hfit
  · rw [hfr, rT_size hD, hhl]; omega
theorem fr_none {s : ByteArray} (hb : frB s = false) : (ctE s = 2 ∧ ctV s = 0) ∨ (ctE s = 0 ∧ ctV s = 0) := by
  unfold frB at hb
  unfold ctE ctV
  cases h : formB s true
  · exact .inl ⟨rfl, rfl⟩
  · rw [h, Bool.true_and, decide_eq_false_iff_not] at hb
    refine .inr ⟨rfl, ?_⟩
    have : wyL (wL s) 0 = 0 := by omega
    rw [if_pos rfl, this]
    rfl
end Go.Proofs.YtoenecgjiejljaaDoor
namespace Go.Proofs.YtoenecgjiejljaaDoor
open Go.RowKit
set_option linter.unusedVariables false

def wnB (x : Int) : UInt8 := if x < 0 then 63 else dgB x
/-- Letters, and digits or worn ones behind them. -/
def wT (hd : List UInt8) (M : List Int) : ByteArray := sL (hd ++ M.map wnB)
theorem wT_size {hd : List UInt8} {M : List Int} (hM : M.length = 6) : (wT hd M).size = hd.length + 6 := by
  unfold wT
  rw [sL_size, List.length_append, List.length_map, hM]
theorem wT_dig {hd : List UInt8} {D : List Int} (h : ∀ x ∈ D, Dig x) : wT hd D = rT hd D := by
  unfold wT rT
  congr 2
  refine List.map_congr_left fun x hx => ?_
  have := (h x hx).1
  exact if_neg (by omega)
theorem wnB_ok {x : Int} (h : x = -1 ∨ Dig x) : ((wnB x).toNat = 63 ∧ x = -1) ∨ ((wnB x).toNat = 48 + x.toNat ∧ 0 ≤ x ∧ x ≤ 9) := by
  rcases h with rfl | ⟨h0, h1⟩
  · exact .inl ⟨rfl, rfl⟩
  · refine .inr ⟨?_, h0, h1⟩
    unfold wnB
    rw [if_neg (by omega)]
    unfold dgB
    rw [ofNat_toNat (by omega)]
theorem wnI_B {x : Int} (h : x = -1 ∨ Dig x) : wnI ((wnB x).toNat : Int) = x := by
  unfold wnI
  rcases wnB_ok h with ⟨h1, h2⟩ | ⟨h1, h2, h3⟩
  · rw [h1, h2]; rfl
  · rw [h1, if_neg (by omega)]; omega
theorem wT_form {hd : List UInt8} {M : List Int} (hh : Lett hd) (hM : M.length = 6) (hw : WDig M) : formB (wT hd M) true = true := by
  refine formB_ok (by rw [wT_size hM]; have := hh.1; omega) fun i hi => ?_
  rw [wT_size hM] at hi ⊢
  have e : ((hd.length + 6 : Nat) : Int) - 6 = (hd.length : Int) := by omega
  unfold okAt
  rw [e]
  by_cases hk : i < hd.length
  · rw [if_pos (by omega)]
    have : bAt (wT hd M) i = ((hd[i]'hk).toNat : Int) := by
      unfold wT
      rw [bAt_sL, List.getD_eq_getElem?_getD, List.getElem?_append_left hk, List.getElem?_eq_getElem hk]
      rfl
    rw [this, hh.2 _ (List.getElem_mem hk)]
    rfl
  · rw [if_neg (by omega)]
    have hl : i - hd.length < (M.map wnB).length := by rw [List.length_map]; omega
    have : bAt (wT hd M) i = (((M.map wnB)[i - hd.length]'hl).toNat : Int) := by
      unfold wT
      rw [bAt_sL, List.getD_eq_getElem?_getD, List.getElem?_append_right (by omega), List.getElem?_eq_getElem hl]
      rfl
    rw [this]
    obtain ⟨x, hx, he⟩ := List.mem_map.1 (List.getElem_mem hl)
    rw [← he]
    rcases wnB_ok (hw x hx) with ⟨h1, h2⟩ | ⟨h1, h2, h3⟩
    · rw [h1]; simp
    · rw [h1]
      have : isNum ((48 + x.toNat : Nat) : Int) = true := isNum_iff.2 ⟨by omega, by omega⟩
      rw [this]
      rfl
theorem wT_head {hd : List UInt8} {M : List Int} (hM : M.length = 6) : bl (headB (wT hd M)) = hd := by
  unfold headB
  rw [bl_extract, wT_size hM]
  unfold wT
  rw [bl_sL, List.drop_zero, Nat.sub_zero, Nat.add_sub_cancel, List.take_left]
theorem wT_tail {hd : List UInt8} {M : List Int} (hM : M.length = 6) : bl (tailB (wT hd M)) = M.map wnB := by
  unfold tailB
  rw [bl_extract, wT_size hM]
  unfold wT
  rw [bl_sL, Nat.add_sub_cancel, List.drop_left, List.take_of_length_le (by rw [List.length_map]; omega)]
theorem wT_wl {hd : List UInt8} {M : List Int} (hM : M.length = 6) (hw : WDig M) : wL (wT hd M) = M := by
  rw [tail_bytes (by rw [wT_size hM]; omega), wT_tail hM, List.map_map]
  conv => rhs; rw [← List.map_id M]
  exact List.map_congr_left fun x hx => wnI_B (hw x hx)
theorem lett_no {hd : List UInt8} (h : Lett hd) : wb hd = 0 ∧ hdF hd = hd := by
  have hne : ∀ c ∈ hd, c ≠ 63 := fun c hc e => by
    have := h.2 c hc
    rw [e] at this
    exact absurd this (by decide)
  constructor
  · unfold wb
    rw [List.count_eq_zero]
    exact fun hm => hne 63 hm rfl
  · unfold hdF
    conv => rhs; rw [← List.map_id hd]
    exact List.map_congr_left fun c hc => if_neg (hne c hc)
theorem wT_count {hd : List UInt8} {M : List Int} (hh : Lett hd) (hM : M.length = 6) (hw : WDig M) : ctE (wT hd M) = 0 ∧ ctV (wT hd M) = (wyL M 0 : Nat) := by
  unfold ctE ctV
  rw [wT_form hh hM hw, wT_head hM, wT_wl hM hw, (lett_no hh).1]
  simp
theorem wT_first {hd : List UInt8} {M : List Int} (hh : Lett hd) (hM : M.length = 6) (hw : WDig M) (hy : wyL M 0 ≠ 0) : frB (wT hd M) = true ∧ frS (wT hd M) = rT hd (gr [] M) := by
  have hb : frB (wT hd M) = true := by unfold frB; rw [wT_form hh hM hw, wT_wl hM hw, decide_eq_true hy]; rfl
  refine ⟨hb, ?_⟩
  unfold frS
  rw [if_pos hb, wT_head hM, wT_wl hM hw, (lett_no hh).2]
/-- The letters of a series, and the digits of a ring. -/
def rgD (n : Nat) : List Int := pdD n ++ [chkD (pdD n)]
theorem rgD_len (n : Nat) : (rgD n).length = 6 := by unfold rgD pdD; rw [List.length_append, List.length_map, padK_len]; rfl
theorem rgD_dig (n : Nat) : ∀ x ∈ rgD n, Dig x := dig_app (pdD_dig n) (dig_chk (pdD_dig n))
theorem rgD_sum (n : Nat) : sumL (rgD n) = 0 := (chk_iff (pdD_dig n) (dig_chk (pdD_dig n))).2 rfl
theorem series_lett {s : ByteArray} (h : seriesB s = true) : Lett (bl s) := by
  obtain ⟨h1, h2⟩ := series_at h
  refine ⟨by rw [bl_len]; exact h1, fun c hc => ?_⟩
  obtain ⟨i, hi, he⟩ := List.getElem_of_mem hc
  have := h2 i (by rw [bl_len] at hi; exact hi)
  rw [bAt_bl, List.getD_eq_getElem?_getD, List.getElem?_eq_getElem hi, he] at this
  exact this
theorem mkR_rT (s : ByteArray) (n : Nat) : mkR s n = rT (bl s) (rgD n) := by
  unfold mkR rT rgD
  rw [pdD_bytes]
theorem split_at {D : List Int} {j : Nat} {x : Int} (h : D[j]? = some x) : D = D.take j ++ x :: D.drop (j + 1) := by
  have hj := (List.getElem?_eq_some_iff.1 h).1
  conv => lhs; rw [← List.take_append_drop j D, List.drop_eq_getElem_cons hj]
  rw [List.getElem?_eq_getElem hj] at h
  rw [Option.some.inj h]
/-- One worn digit of a ring: one ring fits, the ring itself. -/
theorem one_worn {hd : List UInt8} {D : List Int} (hh : Lett hd) (hD : D.length = 6) (hdd : ∀ x ∈ D, Dig x) (hs : sumL D = 0) {j : Nat} (hj : j < 6) :
    ctE (wT hd (D.set j (-1))) = 0 ∧ ctV (wT hd (D.set j (-1))) = 1 ∧ frB (wT hd (D.set j (-1))) = true ∧ frS (wT hd (D.set j (-1))) = rT hd D := by
  obtain ⟨x, hx⟩ : ∃ x, D[j]? = some x := ⟨_, List.getElem?_eq_getElem (by omega)⟩
  have hsp := split_at hx
  have hxd := hdd x (List.mem_of_getElem? hx)
  obtain ⟨n, hn, rfl⟩ := hxd.nat
  have hta : (D.take j).length = j := by rw [List.length_take]; omega
  have hset : D.set j (-1) = D.take j ++ (-1) :: D.drop (j + 1) := by
    conv => lhs; rw [hsp]
    rw [List.set_append_right _ _ (by omega), hta, Nat.sub_self, List.set_cons_zero]
  have ha : ∀ y ∈ D.take j, Dig y := fun y hy => hdd y (List.mem_of_mem_take hy)
  have hb : ∀ y ∈ D.drop (j + 1), Dig y := fun y hy => hdd y (List.mem_of_mem_drop hy)
  have hbl : (D.drop (j + 1)).length < 6 := by rw [List.length_drop]; omega
  have hM : (D.set j (-1)).length = 6 := by rw [List.length_set]; exact hD
  have hw : WDig (D.set j (-1)) := by
    rw [hset]
    intro y hy
    rcases List.mem_append.1 hy with hy | hy
    · exact .inr (ha y hy)
    · rcases List.mem_cons.1 hy with rfl | hy
      · exact .inl rfl
      · exact .inr (hb y hy)
  have hn1 : nW (D.set j (-1)) = 1 := by rw [hset, nW_append, nW_cons, nW_digs ha, nW_digs hb]; rfl
  have hy : wyL (D.set j (-1)) 0 = 1 := by
    rcases wyl_zero hw (by omega) with ⟨h0, _⟩ | ⟨h0, _⟩ | ⟨_, h2⟩
    · omega
    · omega
    · rw [h2, hn1]
  obtain ⟨c1, c2⟩ := wT_count hh hM hw
  obtain ⟨f1, f2⟩ := wT_first hh hM hw (by omega)
  refine ⟨c1, by rw [c2, hy]; rfl, f1, ?_⟩
  rw [f2, hset, gr_split _ [] _ (nW_digs hb), List.nil_append, fill0_none (nW_digs ha)]
  have : n = dst (D.take j) (D.drop (j + 1)) := (dst_is ha hb hbl hn).1 (by rw [← hsp]; exact hs)
  rw [← this, ← hsp]
end Go.Proofs.YtoenecgjiejljaaDoor

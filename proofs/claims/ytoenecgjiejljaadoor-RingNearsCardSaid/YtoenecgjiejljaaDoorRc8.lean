/-
  The least ring that fits a worn one: its bytes. No program in sight.
-/
import Derived.Test.YtoenecgjiejljaaDoorRc6
import Derived.Test.YtoenecgjiejljaaDoorRm3
import Derived.Lib.LastIndexByte
namespace Go.Proofs.YtoenecgjiejljaaDoor
open Go.RowKit
set_option linter.unusedVariables false

/-- Letters, and digits behind them. -/
def rT (hd : List UInt8) (D : List Int) : ByteArray := sL (hd ++ D.map dgB)
def hdF (l : List UInt8) : List UInt8 := l.map fun c => if c = 63 then 65 else c
def tl0 (l : List UInt8) : List UInt8 := l.map fun c => if c = 63 then 48 else c
/-- What First returns. -/
def frB (s : ByteArray) : Bool := formB s true && decide (wyL (wL s) 0 ≠ 0)
def frS (s : ByteArray) : ByteArray := if frB s = true then rT (hdF (bl (headB s))) (gr [] (wL s)) else ⟨#[]⟩
theorem dgB_dg {d : Int} (h : Dig d) : isDg (dgB d) = true := by
  obtain ⟨h0, h1⟩ := h
  unfold dgB
  rw [isDg_iff, ofNat_toNat (by omega)]
  omega
theorem dgB_num {d : Int} (h : Dig d) : ((dgB d).toNat : Int) - 48 = d := by
  obtain ⟨h0, h1⟩ := h
  unfold dgB
  rw [ofNat_toNat (by omega)]
  omega
def Lett (hd : List UInt8) : Prop := (hd.length = 1 ∨ hd.length = 2) ∧ ∀ c ∈ hd, isUp (c.toNat : Int) = true
theorem rT_size {hd : List UInt8} {D : List Int} (hD : D.length = 6) : (rT hd D).size = hd.length + 6 := by
  unfold rT
  rw [sL_size, List.length_append, List.length_map, hD]
theorem rT_form {hd : List UInt8} {D : List Int} (hh : Lett hd) (hD : D.length = 6) (hd' : ∀ x ∈ D, Dig x) : formB (rT hd D) false = true := by
  refine formB_ok (by rw [rT_size hD]; have := hh.1; omega) fun i hi => ?_
  rw [rT_size hD] at hi ⊢
  have e : ((hd.length + 6 : Nat) : Int) - 6 = (hd.length : Int) := by omega
  unfold okAt
  rw [e]
  by_cases hk : i < hd.length
  · rw [if_pos (by omega)]
    have : bAt (rT hd D) i = ((hd[i]'hk).toNat : Int) := by
      unfold rT
      rw [bAt_sL, List.getD_eq_getElem?_getD, List.getElem?_append_left hk, List.getElem?_eq_getElem hk]
      rfl
    rw [this, hh.2 _ (List.getElem_mem hk)]
    rfl
  · rw [if_neg (by omega)]
    have hl : i - hd.length < (D.map dgB).length := by rw [List.length_map]; omega
    have : bAt (rT hd D) i = (((D.map dgB)[i - hd.length]'hl).toNat : Int) := by
      unfold rT
      rw [bAt_sL, List.getD_eq_getElem?_getD, List.getElem?_append_right (by omega), List.getElem?_eq_getElem hl]
      rfl
    rw [this, isNum_dg]
    obtain ⟨x, hx, he⟩ := List.mem_map.1 (List.getElem_mem hl)
    rw [← he, dgB_dg (hd' x hx)]
    rfl
theorem rT_tail {hd : List UInt8} {D : List Int} (hD : D.length = 6) (hd' : ∀ x ∈ D, Dig x) : tailD (rT hd D) = D := by
  have h6 : 6 ≤ (rT hd D).size := by rw [rT_size hD]; omega
  have ht : tailB (rT hd D) = sL (D.map dgB) := by
    apply bl_inj
    unfold tailB
    rw [bl_extract, rT_size hD]
    unfold rT
    rw [bl_sL, bl_sL, Nat.add_sub_cancel, List.drop_left, List.take_of_length_le (by rw [List.length_map]; omega)]
  rw [← digs_tailB h6, ht, digs_sL, List.map_map]
  conv => rhs; rw [← List.map_id D]
  exact List.map_congr_left fun d hd => dgB_num (hd' d hd)
theorem rT_valid {hd : List UInt8} {D : List Int} (hh : Lett hd) (hD : D.length = 6) (hd' : ∀ x ∈ D, Dig x) : validE (rT hd D) = if sumL D = 0 then 0 else 6 := by
  unfold validE
  rw [if_pos (rT_form hh hD hd'), rT_tail hD hd']
theorem hd_lett {s : ByteArray} (h : formB s true = true) : Lett (hdF (bl (headB s))) := by
  have hs := form_size h
  have hl : (bl (headB s)).length = s.size - 6 := by rw [bl_len]; simp [headB]
  refine ⟨by unfold hdF; rw [List.length_map, hl]; omega, fun c hc => ?_⟩
  obtain ⟨b, hb, rfl⟩ := List.mem_map.1 hc
  obtain ⟨i, hi, he⟩ := List.getElem_of_mem hb
  have h1 : bAt (headB s) i = bAt s i := by unfold headB; rw [bAt_extract _ _ _ _ (by omega), Nat.zero_add]
  have h2 : bAt (headB s) i = (b.toNat : Int) := by
    unfold bAt
    rw [List.getD_eq_getElem?_getD, show (headB s).data.toList = bl (headB s) from rfl, List.getElem?_eq_getElem hi, he]
    rfl
  have := form_at h (i := i) (by omega)
  unfold okAt at this
  rw [if_pos (by omega), ← h1, h2] at this
  by_cases h63 : b = 63
  · rw [if_pos h63]; decide
  · rw [if_neg h63]
    have hne : ¬ ((b.toNat : Int) = 63) := fun e => h63 (UInt8.toNat_inj.1 (by show b.toNat = 63; omega))
    simpa [hne] using this
/-- All worn digits 0: in bytes. -/
theorem tl0_fill {s : ByteArray} (h : formB s true = true) : tl0 (bl (tailB s)) = (fill0 (wL s)).map dgB := by
  have hs := form_size h
  rw [tail_bytes (by omega)]
  unfold tl0 fill0
  rw [List.map_map, List.map_map]
  refine List.map_congr_left fun c hc => ?_
  have hb := tail_byte h hc
  simp only [Function.comp_apply]
  unfold wnI
  by_cases h63 : c = 63
  · subst h63; decide
  · have hne : c.toNat ≠ 63 := fun e => h63 (UInt8.toNat_inj.1 e)
    rw [if_neg h63, if_neg (by omega), if_neg (by omega), dgB_of (isDg_iff.2 (by omega))]
theorem lowest_is {s : ByteArray} (h : formB s true = true) : sL (hdF (bl (headB s))) ++ sL (tl0 (bl (tailB s))) = rT (hdF (bl (headB s))) (fill0 (wL s)) := by
  rw [sL_app, tl0_fill h]
  rfl
theorem fill0_len (l : List Int) : (fill0 l).length = l.length := by simp [fill0]
/-- Whether there is one, and which. -/
theorem fr_cases {s : ByteArray} (h : formB s true = true) :
    (sumL (fill0 (wL s)) = 0 ∧ frB s = true ∧ frS s = rT (hdF (bl (headB s))) (fill0 (wL s))) ∨
    (sumL (fill0 (wL s)) ≠ 0 ∧ nW (wL s) = 0 ∧ frB s = false ∧ frS s = ⟨#[]⟩) ∨
    (sumL (fill0 (wL s)) ≠ 0 ∧ ∃ a b, wL s = a ++ (-1) :: b ∧ nW b = 0 ∧ frB s = true ∧ frS s = rT (hdF (bl (headB s))) (fill0 a ++ (dst (fill0 a) b : Int) :: b)) := by
  have hw := wl_dig h
  have hl : (wL s).length = 6 := wlK_length s 6
  have hy := wyl_zero hw (by omega)
  by_cases hs : sumL (fill0 (wL s)) = 0
  · refine .inl ⟨hs, ?_, ?_⟩
    · unfold frB
      rw [h, Bool.true_and, decide_eq_true_eq]
      rcases hy with ⟨h0, h1, h2⟩ | ⟨h0, h1, h2⟩ | ⟨h0, h2⟩
      · omega
      · rw [fill0_none h0] at hs; exact absurd hs h1
      · rw [h2]; exact Nat.pos_iff_ne_zero.1 (Nat.pow_pos (by omega))
    · have hb : frB s = true := by
        unfold frB
        rw [h, Bool.true_and, decide_eq_true_eq]
        rcases hy with ⟨h0, h1, h2⟩ | ⟨h0, h1, h2⟩ | ⟨h0, h2⟩
        · omega
        · rw [fill0_none h0] at hs; exact absurd hs h1
        · rw [h2]; exact Nat.pos_iff_ne_zero.1 (Nat.pow_pos (by omega))
      unfold frS
      rw [if_pos hb, gr_lowest hw (by omega) hs]
  · by_cases h0 : nW (wL s) = 0
    · have h2 : wyL (wL s) 0 = 0 := by
        rcases hy with ⟨_, h1, _⟩ | ⟨_, _, h2⟩ | ⟨hn, _⟩
        · rw [fill0_none h0] at hs; exact absurd h1 hs
        · exact h2
        · exact absurd h0 hn
      have hb : frB s = false := by unfold frB; rw [h2]; simp
      exact .inr (.inl ⟨hs, h0, hb, by unfold frS; rw [if_neg (by rw [hb]; decide)]⟩)
    · have h2 : wyL (wL s) 0 ≠ 0 := by
        rcases hy with ⟨hn, _, _⟩ | ⟨hn, _, _⟩ | ⟨_, h2⟩
        · exact absurd hn h0
        · exact absurd hn h0
        · rw [h2]; exact Nat.pos_iff_ne_zero.1 (Nat.pow_pos (by omega))
      have hb : frB s = true := by unfold frB; rw [h, decide_eq_true h2]; rfl
      obtain ⟨a, b, he, hnb⟩ := last_worn _ hw h0
      refine .inr (.inr ⟨hs, a, b, he, hnb, hb, ?_⟩)
      unfold frS
      rw [if_pos hb, he, gr_split a [] b hnb, List.nil_append]
/-- Where the last worn byte is. -/
theorem data_at (s : ByteArray) (j : Nat) : ((s.data[j]!).toNat : Int) = bAt s j := by
  unfold bAt
  rw [List.getD_eq_getElem?_getD, Array.getElem?_toList, getElem!_def]
  cases s.data[j]? <;> rfl
theorem last_is {s : ByteArray} (h : formB s true = true) {a b : List Int} (he : wL s = a ++ (-1) :: b) (hb : nW b = 0) : Lib.lastIndexByte s 63 = ((s.size - 6 + a.length : Nat) : Int) := by
  have hs := form_size h
  have hl : (wL s).length = 6 := wlK_length s 6
  have hal : a.length < 6 := by rw [he] at hl; simp at hl; omega
  have hat : ∀ i, i < 6 → (wL s)[i]? = some (wnI (bAt s (s.size - 6 + i))) := fun i hi => by
    unfold wL wlK
    rw [List.getElem?_map, List.getElem?_range hi]
    rfl
  have h1 : bAt s (s.size - 6 + a.length) = 63 := by
    have := hat a.length hal
    rw [he, List.getElem?_append_right (Nat.le_refl _), Nat.sub_self] at this
    have hv : (-1 : Int) = wnI (bAt s (s.size - 6 + a.length)) := by simpa using this
    unfold wnI at hv
    by_cases h63 : bAt s (s.size - 6 + a.length) = 63
    · exact h63
    · rw [if_neg h63] at hv
      have := form_byte h hal
      omega
  have h2 : ∀ i, a.length < i → i < 6 → bAt s (s.size - 6 + i) ≠ 63 := fun i hi hi6 h63 => by
    have := hat i hi6
    unfold wnI at this
    rw [if_pos h63, he, List.getElem?_append_right (by omega)] at this
    obtain ⟨j, hj⟩ : ∃ j, i - a.length = j + 1 := ⟨i - a.length - 1, by omega⟩
    rw [hj, List.getElem?_cons_succ] at this
    unfold nW at hb
    rw [List.countP_eq_zero] at hb
    have := hb _ (List.mem_of_getElem? this)
    exact absurd (by decide) this
  rcases Lib.lastIndexByte_spec s 63 with ⟨_, hn⟩ | ⟨i, hi, hL, hc, hn⟩
  · exact absurd h1 (by rw [← data_at]; exact hn _ (by omega))
  · rw [hL]
    rw [data_at] at hc
    rcases Nat.lt_trichotomy i (s.size - 6 + a.length) with hlt | heq | hgt
    · exact absurd h1 (by rw [← data_at]; exact hn _ hlt (by omega))
    · omega
    · have := h2 (i - (s.size - 6)) (by omega) (by omega)
      rw [show s.size - 6 + (i - (s.size - 6)) = i by omega] at this
      exact absurd hc this
theorem last_none {s : ByteArray} (h : formB s true = true) (h0 : nW (wL s) = 0) : Lib.lastIndexByte s 63 < ((s.size - 6 : Nat) : Int) := by
  have hs := form_size h
  rcases Lib.lastIndexByte_spec s 63 with ⟨hL, hn⟩ | ⟨i, hi, hL, hc, hn⟩
  · omega
  · rw [hL]
    rw [data_at] at hc
    rcases Nat.lt_or_ge i (s.size - 6) with hlt | hge
    · omega
    · exfalso
      have hm : wnI (bAt s (s.size - 6 + (i - (s.size - 6)))) ∈ wL s := List.mem_map.2 ⟨i - (s.size - 6), List.mem_range.2 (by omega), rfl⟩
      rw [show s.size - 6 + (i - (s.size - 6)) = i by omega, hc] at hm
      unfold nW at h0
      rw [List.countP_eq_zero] at h0
      have := h0 _ hm
      exact absurd (by decide) this
/-- One byte replaced in the lowest text. -/
theorem set_is {hd : List UInt8} {a b : List Int} {d : Nat} (hb : nW b = 0) : sL ((bl (rT hd (fill0 (a ++ (-1) :: b)))).set (hd.length + a.length) (UInt8.ofNat (48 + d))) = rT hd (fill0 a ++ (d : Int) :: b) := by
  unfold rT
  rw [bl_sL]
  congr 1
  have e : fill0 (a ++ (-1) :: b) = fill0 a ++ 0 :: b := by
    rw [fill0_append]
    show fill0 a ++ ((if (-1 : Int) < 0 then 0 else -1) :: fill0 b) = _
    rw [fill0_none hb]
    rfl
  rw [e, List.map_append, List.map_append, List.set_append_right _ _ (by omega), List.set_append_right _ _ (by rw [List.length_map, fill0_len]; omega)]
  rw [List.length_map, fill0_len, Nat.add_sub_cancel_left, Nat.sub_self]
  simp only [List.map_cons, List.set_cons_zero]
  unfold dgB
  rw [Int.toNat_natCast]
end Go.Proofs.YtoenecgjiejljaaDoor

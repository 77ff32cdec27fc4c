/-
  In how many ways a text is heard: the walks of checkText, textOK, Heard. Conditions: the code and the text can be read.
-/
import Derived.Test.YtjongjndoaojnaaHr1
import Derived.Test.YtjongjndoaojnaaLwBacks
import Derived.Test.YtjongjndoaojnaaFl2
namespace Go.Proofs.Ytjongjndoaojnaa
open Go.RowKit
set_option linter.unusedVariables false

/-- The first error of a code and of a text. -/
def txE (C : List ByteArray) (t : ByteArray) : Int := if vE C = 0 then (if 60 < t.size then 3 else if notesB t = false then 1 else 0) else vE C
theorem txE_zero {C : List ByteArray} {t : ByteArray} (h : txE C t = 0) : vE C = 0 ∧ t.size ≤ 60 ∧ notesB t = true := by
  unfold txE at h
  by_cases hv : vE C = 0
  · rw [if_pos hv] at h
    by_cases h1 : 60 < t.size
    · rw [if_pos h1] at h; cases h
    · rw [if_neg h1] at h
      by_cases h2 : notesB t = false
      · rw [if_pos h2] at h; cases h
      · exact ⟨hv, by omega, by simpa using h2⟩
  · rw [if_neg hv] at h; exact absurd h hv
set_option maxRecDepth 4000 in
set_option maxHeartbeats 1000000 in
theorem checkText_any (A : Option Addr) (c : Nat) (C : List ByteArray) (t : ByteArray) (w : World) (hr : Rd w w.heap.size A (txts C)) (hs : Sz C) (hl : C.length ≤ c) (hc : c ≤ 9223372036854775807) (ht : t.size ≤ 9223372036854775807) :
    Calls Try.prog 59 #[.slice A C.length c, .string t] w fun e w' => e = .returned (.int .i64 (txE C t)) ∧ Below w.heap.size w w' := by
  have HVA := Lib.hid (Validate_any A c C w hr hs hl hc)
  have HN := Lib.hid (fun w => areNotes_any t w ht)
  clear hr hs
  by_cases hv : vE C = 0
  · rw [hv] at HVA
    have HE := Lib.hid (show txE C t = if 60 < t.size then 3 else if notesB t = false then 1 else 0 from if_pos hv)
    clear hv
    by_cases h1 : 60 < t.size
    · have e1 : decide ((60 : Int) < (t.size : Int)) = true := by simp; omega
      have e2 : decide (60 < t.size) = true := by simpa using h1
      rw [if_pos h1] at HE
      clear h1
      go_enter Try.func59, Try.ntmps59
      go_wp2_with fail
      refine HVA.out.mono ?_
      rintro e w1 ⟨rfl, hb⟩
      go_wp2_with fail
      go_ret
      exact ⟨by rw [HE.out]; rfl, hb⟩
    · have e1 : decide ((60 : Int) < (t.size : Int)) = false := by simp; omega
      have e2 : decide (60 < t.size) = false := by simpa using h1
      rw [if_neg h1] at HE
      clear h1
      cases hn : notesB t
      · simp only [hn] at HN
        rw [if_pos hn] at HE
        clear hn
        go_enter Try.func59, Try.ntmps59
        go_wp2_with fail
        refine HVA.out.mono ?_
        rintro e w1 ⟨rfl, hb⟩
        have B1 := Lib.hid hb
        clear hb
        go_wp2_with fail
        refine (HN.out w1).mono ?_
        rintro e w2 ⟨rfl, hb⟩
        have B2 := Lib.hid (B1.out.trans (hb.mono B1.out.size))
        clear hb
        go_wp2_with fail
        go_ret
        exact ⟨by rw [HE.out]; rfl, B2.out⟩
      · simp only [hn] at HN
        rw [if_neg (by rw [hn]; simp)] at HE
        clear hn
        go_enter Try.func59, Try.ntmps59
        go_wp2_with fail
        refine HVA.out.mono ?_
        rintro e w1 ⟨rfl, hb⟩
        have B1 := Lib.hid hb
        clear hb
        go_wp2_with fail
        refine (HN.out w1).mono ?_
        rintro e w2 ⟨rfl, hb⟩
        have B2 := Lib.hid (B1.out.trans (hb.mono B1.out.size))
        clear hb
        go_wp2_with fail
        go_ret
        exact ⟨by rw [HE.out]; rfl, B2.out⟩
  · have e1 : (vE C != 0) = true := by simpa using hv
    have HE := Lib.hid (show txE C t = vE C from if_neg hv)
    clear hv
    go_enter Try.func59, Try.ntmps59
    go_wp2_with fail
    refine HVA.out.mono ?_
    rintro e w1 ⟨rfl, hb⟩
    go_wp2_with fail
    go_ret
    exact ⟨by rw [HE.out]; rfl, hb⟩
set_option maxRecDepth 4000 in
set_option maxHeartbeats 1000000 in
theorem textOK_any (A : Option Addr) (c : Nat) (C : List ByteArray) (t : ByteArray) (w : World) (hr : Rd w w.heap.size A (txts C)) (hs : Sz C) (hl : C.length ≤ 9223372036854775807) (ht : t.size ≤ 9223372036854775807) :
    Calls Try.prog 61 #[.slice A C.length c, .string t] w fun e w' => e = .returned (.int .i64 (txE C t)) ∧ ∃ m, w' = w.drewN m := by
  have HVA := Lib.hid (rValidate_any A c C w hr hs hl)
  have HN := Lib.hid (fun w => isNotes_any t w ht)
  clear hr hs
  by_cases hv : vE C = 0
  · rw [hv] at HVA
    have HE := Lib.hid (show txE C t = if 60 < t.size then 3 else if notesB t = false then 1 else 0 from if_pos hv)
    clear hv
    by_cases h1 : 60 < t.size
    · have e1 : decide ((60 : Int) < (t.size : Int)) = true := by simp; omega
      have e2 : decide (60 < t.size) = true := by simpa using h1
      rw [if_pos h1] at HE
      clear h1
      go_enter Try.func61, Try.ntmps61
      go_wp2_with fail
      refine HVA.out.mono ?_
      rintro e w1 ⟨rfl, m, rfl⟩
      go_wp2_with fail
      go_ret
      exact ⟨by rw [HE.out]; rfl, m, rfl⟩
    · have e1 : decide ((60 : Int) < (t.size : Int)) = false := by simp; omega
      have e2 : decide (60 < t.size) = false := by simpa using h1
      rw [if_neg h1] at HE
      clear h1
      cases hn : notesB t
      · simp only [hn] at HN
        rw [if_pos hn] at HE
        clear hn
        go_enter Try.func61, Try.ntmps61
        go_wp2_with fail
        refine HVA.out.mono ?_
        rintro e w1 ⟨rfl, m, rfl⟩
        go_wp2_with fail
        refine (HN.out _).mono ?_
        rintro e w' ⟨rfl, rfl⟩
        go_wp2_with fail
        go_ret
        exact ⟨by rw [HE.out]; rfl, m, rfl⟩
      · simp only [hn] at HN
        rw [if_neg (by rw [hn]; simp)] at HE
        clear hn
        go_enter Try.func61, Try.ntmps61
        go_wp2_with fail
        refine HVA.out.mono ?_
        rintro e w1 ⟨rfl, m, rfl⟩
        go_wp2_with fail
        refine (HN.out _).mono ?_
        rintro e w' ⟨rfl, rfl⟩
        go_wp2_with fail
        go_ret
        exact ⟨by rw [HE.out]; rfl, m, rfl⟩
  · have e1 : (vE C != 0) = true := by simpa using hv
    have HE := Lib.hid (show txE C t = vE C from if_neg hv)
    clear hv
    go_enter Try.func61, Try.ntmps61
    go_wp2_with fail
    refine HVA.out.mono ?_
    rintro e w1 ⟨rfl, m, rfl⟩
    go_wp2_with fail
    go_ret
    exact ⟨by rw [HE.out]; rfl, m, rfl⟩
/-! ### Signals taken one after another -/
theorem pfx_bl {s t : ByteArray} : pfx s t = decide (bl s <+: bl t) := rfl
/-- The index of the first signal that a text begins with. -/
def ixP (C : List ByteArray) (t : ByteArray) : Int := match C.findIdx? (fun s => pfx s t) with | some k => (k : Int) | none => -1
theorem ixP_hit {C : List ByteArray} {t : ByteArray} {k : Nat} {s : ByteArray} (hk : C[k]? = some s) (hp : pfx s t = true) (h : ∀ (j : Nat) e, j < k → C[j]? = some e → pfx e t = false) : ixP C t = k := by
  unfold ixP
  obtain ⟨hl, he⟩ := List.getElem?_eq_some_iff.1 hk
  rw [show C.findIdx? (fun s => pfx s t) = some k from List.findIdx?_eq_some_iff_getElem.2 ⟨hl, by rw [he]; exact hp, fun j hj => by
    rw [h j C[j] hj (List.getElem?_eq_getElem (by omega))]; simp⟩]
theorem ixP_none {C : List ByteArray} {t : ByteArray} (h : ∀ (j : Nat) e, j < C.length → C[j]? = some e → pfx e t = false) : ixP C t = -1 := by
  unfold ixP
  rw [show C.findIdx? (fun s => pfx s t) = none from List.findIdx?_eq_none_iff.2 fun y hy => by
    obtain ⟨j, hj, he⟩ := List.getElem_of_mem hy
    exact h j y hj (by rw [List.getElem?_eq_getElem hj, he])]
theorem ixP_fst (C : List ByteArray) (t : ByteArray) : (ixP C t = -1 ∧ fst C (bl t) = none) ∨ ∃ (k : Nat) (s : ByteArray), ixP C t = k ∧ C[k]? = some s ∧ fst C (bl t) = some s ∧ pfx s t = true := by
  unfold ixP fst
  cases h : C.findIdx? (fun s => pfx s t) with
  | none =>
    left
    refine ⟨rfl, List.find?_eq_none.2 fun s hs => ?_⟩
    have := List.findIdx?_eq_none_iff.1 h s hs
    rw [pfx_bl] at this
    rw [this]; simp
  | some k =>
    right
    obtain ⟨hl, h1, h2⟩ := List.findIdx?_eq_some_iff_getElem.1 h
    refine ⟨k, C[k], rfl, List.getElem?_eq_getElem hl, ?_, h1⟩
    rw [List.find?_eq_some_iff_getElem]
    refine ⟨h1, k, hl, rfl, fun j hj => ?_⟩
    have := h2 j hj
    simpa [pfx_bl] using this
theorem pf_next {C : List ByteArray} {t d : ByteArray} {k : Nat} (hd : C[k]? = some d) (hn : pfx d t = false) (ha : ∀ (j : Nat) e, j < k → C[j]? = some e → pfx e t = false) : ∀ (j : Nat) e, j < k + 1 → C[j]? = some e → pfx e t = false := by
  intro j e hj he
  rcases Nat.lt_or_ge j k with h | h
  · exact ha j e h he
  · obtain rfl : j = k := by omega
    rw [hd] at he
    cases he
    exact hn
theorem fits_any (s t : ByteArray) (br : Nat) (w : World) (hc : w.cell? ⟨br, 0, none⟩ = some (.string t)) :
    Calls Try.prog 68 #[.string s, .pointer (some ⟨br, 0, none⟩)] w fun e w' => e = .returned (.bool (pfx s t)) ∧ w = w' := by
  have HP := Lib.hid (HasPrefix_any t s)
  go_enter Try.func68, Try.ntmps68
  go_wp2_with fail
  refine (HP.out _).mono ?_
  rintro e w' ⟨rfl, rfl⟩
  go_wp2_with fail
  go_ret
  exact ⟨rfl, rfl⟩
set_option maxRecDepth 4000 in
set_option maxHeartbeats 1000000 in
theorem IndexFuncP_any (A : Option Addr) (c br : Nat) (C : List ByteArray) (t : ByteArray) (w : World) (hr : Rd w w.heap.size A (txts C)) (hl : C.length ≤ 100) (hc : w.cell? ⟨br, 0, none⟩ = some (.string t)) :
    Calls Try.prog 67 #[.slice A C.length c, .func (.func 68) #[] #[.pointer (some ⟨br, 0, none⟩)]] w fun e w' => e = .returned (.int .i64 (ixP C t)) ∧ w = w' := by
  have HR := Lib.hid hr
  have HF := Lib.hid (fun s => fits_any s t br w hc)
  clear hr hc
  go_enter Try.func67, Try.ntmps67
  go_wp2_with fail
  go_loop [8] (fun i => ∃ k : Nat, k ≤ C.length ∧ i = .int .i64 k ∧ ∀ (j : Nat) e, j < k → C[j]? = some e → pfx e t = false) (fun i => C.length - (intOf i).toNat)
  case atStart => exact ⟨0, by omega, rfl, fun j e hj => by omega⟩
  case round =>
    obtain ⟨k, hk, rfl, hall⟩ := hrel
    have HA := Lib.hid hall
    clear hall
    by_cases hlt : k < C.length
    · obtain ⟨b, o, s, hA, hd, hcc⟩ := HR.out.txt k hlt
      subst hA
      have HQ := Lib.hid (HF.out s)
      cases hp : pfx s t
      · rw [hp] at HQ
        have HX := Lib.hid (pf_next hd.out hp HA.out)
        clear hp
        go_wp2_with (go_at_call 68; refine HQ.out.mono ?_; rintro e w' ⟨rfl, rfl⟩)
        go_round
        case rel => exact ⟨k + 1, by omega, by go_num, HX.out⟩
        case measure => simp [intOf]; omega
      · rw [hp] at HQ
        have HX := Lib.hid (ixP_hit hd.out hp HA.out)
        clear hp
        go_wp2_with (go_at_call 68; refine HQ.out.mono ?_; rintro e w' ⟨rfl, rfl⟩)
        go_ret
        exact ⟨by rw [HX.out]; rfl, rfl⟩
    · have hks : k = C.length := by omega
      have HX := Lib.hid (ixP_none (hks ▸ HA.out))
      subst hks
      go_wp2_with fail
      go_ret
      exact ⟨by rw [HX.out]; rfl, rfl⟩
end Go.Proofs.Ytjongjndoaojnaa

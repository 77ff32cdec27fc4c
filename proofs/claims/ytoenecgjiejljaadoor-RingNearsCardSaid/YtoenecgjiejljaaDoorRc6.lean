/-
  How many rings fit a worn one: Count of package ring and of the reference. Conditions: 'TabsR' where package ring reads its tables.
-/
import Derived.Test.YtoenecgjiejljaaDoorRc5
import Derived.Test.YtoenecgjiejljaaDoorShr
namespace Go.Proofs.YtoenecgjiejljaaDoor
open Go.RowKit
set_option linter.unusedVariables false

/-- How many bytes of a text are worn. -/
def wb (l : List UInt8) : Nat := l.count 63
/-- What Count returns. -/
def ctE (s : ByteArray) : Int := if formB s true then 0 else 2
def ctV (s : ByteArray) : Int := if formB s true then (26 ^ wb (bl (headB s)) * wyL (wL s) 0 : Nat) else 0
theorem wyl_zero {l : List Int} (hw : WDig l) (hl : l.length ≤ 6) : (nW l = 0 ∧ sumL l = 0 ∧ wyL l 0 = 1) ∨ (nW l = 0 ∧ sumL l ≠ 0 ∧ wyL l 0 = 0) ∨ (nW l ≠ 0 ∧ wyL l 0 = 10 ^ (nW l - 1)) := by
  obtain ⟨h1, h2⟩ := wy_closed l hw hl 0 (by decide)
  by_cases h0 : nW l = 0
  · have := h1 h0
    by_cases hs : sumL l = 0
    · rw [if_pos (by rw [hs]; rfl)] at this
      exact .inl ⟨h0, hs, this⟩
    · rw [if_neg (fun e => hs e.symm)] at this
      exact .inr (.inl ⟨h0, hs, this⟩)
  · exact .inr (.inr ⟨h0, h2 h0⟩)
theorem countWorn_any (s : ByteArray) (w : World) : Calls Tryd.prog 70 #[.string s] w fun e w' => e = .returned (.int .i64 (wb (bl s))) ∧ w = w' := by
  have H := Lib.hid (show Calls Tryd.prog 119 #[.string s, .string ⟨#[63]⟩] w fun e w' => e = .returned (.int .i64 (wb (bl s))) ∧ w = w' from (Any.strings_Count_one Tryd.lays138 s 63 w).mono fun e w' ⟨h1, h2⟩ => ⟨h1, h2.symm⟩)
  generalize wb (bl s) = n at *
  go_enter Tryd.func70, Tryd.ntmps70
  go_wp2_with fail
  refine (H.out).mono ?_
  rintro e w' ⟨rfl, rfl⟩
  go_wp2_with fail
  go_ret
  exact ⟨rfl, rfl⟩
theorem power_any (b n : Nat) (w : World) (hb : b ≤ 26) (hn : n ≤ 6) : Calls Tryd.prog 71 #[.int .i64 b, .int .i64 n] w fun e w' => e = .returned (.int .i64 ((b ^ n : Nat) : Int)) ∧ w = w' := by
  have HP := Lib.hid (show ∀ k, k ≤ 6 → b ^ k ≤ 308915776 from fun k hk => Nat.le_trans (Nat.pow_le_pow_left hb k) (Nat.le_trans (Nat.pow_le_pow_right (by omega) hk) (by decide)))
  have HB := Lib.hid hb
  have hn1 : (n : Int) ≤ 6 := by omega
  have hn0 : (0 : Int) ≤ (n : Int) := by omega
  have hb0 : (0 : Int) ≤ (b : Int) := by omega
  have hb1 : (b : Int) ≤ 26 := by omega
  clear hb
  go_enter Tryd.func71, Tryd.ntmps71
  go_wp2_with fail
  go_loop [5, 7] (fun v i => ∃ k : Nat, k ≤ n ∧ i = .int .i64 k ∧ v = .int .i64 ((b ^ k : Nat) : Int)) (fun _ i => n - (intOf i).toNat)
  case atStart => exact ⟨0, by omega, rfl, rfl⟩
  case round =>
    obtain ⟨k, hk, rfl, rfl⟩ := hrel
    have h1 := HP.out k (by omega)
    by_cases hlt : k < n
    · have h2 := HP.out (k + 1) (by omega)
      have hm : ((b ^ (k + 1) : Nat) : Int) = ((b ^ k : Nat) : Int) * (b : Int) := by rw [Nat.pow_succ]; exact Int.natCast_mul _ _
      have hlt' : (k : Int) < (n : Int) := by omega
      have m1 : ((b ^ k : Nat) : Int) * (b : Int) ≤ 308915776 := by rw [← hm]; omega
      have m0 : 0 ≤ ((b ^ k : Nat) : Int) * (b : Int) := by rw [← hm]; omega
      have HM := Lib.hid hm
      clear hm h2
      generalize ((b ^ k : Nat) : Int) = P at *
      have hwr : IntKind.i64.wrap (P * (b : Int)) = P * (b : Int) := by rw [IntKind.wrap_i64]; omega
      have hwr2 : wrap64 (P * (b : Int)) = P * (b : Int) := by unfold wrap64; omega
      go_wp2_with fail
      go_round
      case rel => exact ⟨k + 1, by omega, by go_num, by rw [HM.out]⟩
      case measure => simp [intOf]; omega
    · obtain rfl : k = n := by omega
      go_wp2_with fail
      go_ret
      exact ⟨rfl, rfl⟩
theorem wb_le {l : List UInt8} : wb l ≤ l.length := List.count_le_length
theorem tail_bytes {s : ByteArray} (h : 6 ≤ s.size) : wL s = (bl (tailB s)).map fun c => wnI (c.toNat : Int) := by
  apply List.ext_getElem?
  intro i
  unfold wL wlK
  rw [List.getElem?_map, List.getElem?_map]
  have hl : (bl (tailB s)).length = 6 := by rw [bl_len, size_tailB h]
  by_cases hi : i < 6
  · rw [List.getElem?_range hi, List.getElem?_eq_getElem (by omega)]
    simp only [Option.map_some, Option.some.injEq]
    have h1 : bAt (tailB s) i = bAt s (s.size - 6 + i) := by unfold tailB; rw [bAt_extract _ _ _ _ (by omega)]
    rw [← h1]
    unfold bAt
    rw [List.getD_eq_getElem?_getD, List.getElem?_eq_getElem (by rw [← hl] at hi; exact hi)]
    rfl
  · rw [List.getElem?_eq_none (by simp; omega), List.getElem?_eq_none (by omega)]
    rfl
theorem form_byte {s : ByteArray} (h : formB s true = true) {i : Nat} (hi : i < 6) : bAt s (s.size - 6 + i) = 63 ∨ (48 ≤ bAt s (s.size - 6 + i) ∧ bAt s (s.size - 6 + i) ≤ 57) := by
  have hs := form_size h
  have := form_at h (i := s.size - 6 + i) (by omega)
  unfold okAt at this
  rw [if_neg (by omega)] at this
  by_cases h63 : bAt s (s.size - 6 + i) = 63
  · exact .inl h63
  · refine .inr ?_
    simp only [h63, Bool.true_and, decide_false, Bool.or_false] at this
    rwa [isNum_iff] at this
theorem tail_byte {s : ByteArray} (h : formB s true = true) {c : UInt8} (hc : c ∈ bl (tailB s)) : c.toNat = 63 ∨ (48 ≤ c.toNat ∧ c.toNat ≤ 57) := by
  have hs := form_size h
  obtain ⟨i, hi, he⟩ := List.getElem_of_mem hc
  have hl : (bl (tailB s)).length = 6 := by rw [bl_len, size_tailB (by omega)]
  have h1 : bAt (tailB s) i = bAt s (s.size - 6 + i) := by unfold tailB; rw [bAt_extract _ _ _ _ (by omega)]
  have h2 : bAt (tailB s) i = (c.toNat : Int) := by
    unfold bAt
    rw [List.getD_eq_getElem?_getD, show (tailB s).data.toList = bl (tailB s) from rfl, List.getElem?_eq_getElem hi, he]
    rfl
  have := form_byte h (i := i) (by omega)
  omega
theorem nW_tail {s : ByteArray} (h : formB s true = true) : nW (wL s) = wb (bl (tailB s)) := by
  have hs := form_size h
  rw [tail_bytes (by omega)]
  unfold nW wb
  rw [List.countP_map, List.count]
  refine List.countP_congr fun c hc => ?_
  have hb := tail_byte h hc
  unfold wnI
  simp only [Function.comp_apply, decide_eq_true_eq, beq_iff_eq]
  constructor
  · intro h0
    rcases hb with h63 | h1
    · exact UInt8.toNat_inj.1 h63
    · rw [if_neg (by omega)] at h0
      omega
  · rintro rfl
    rw [if_pos (by decide)]
    decide
theorem wl_plain {s : ByteArray} (h : formB s true = true) (h0 : nW (wL s) = 0) : wL s = tailD s ∧ allNum (tailB s) = true := by
  have hs := form_size h
  have hd := nW_dig (wl_dig h) h0
  have key : ∀ i, i < 6 → bAt s (s.size - 6 + i) ≠ 63 ∧ Dig (bAt s (s.size - 6 + i) - 48) := by
    intro i hi
    have hm : wnI (bAt s (s.size - 6 + i)) ∈ wL s := List.mem_map.2 ⟨i, List.mem_range.2 hi, rfl⟩
    have := hd _ hm
    unfold wnI at this
    by_cases h63 : bAt s (s.size - 6 + i) = 63
    · rw [if_pos h63] at this; exact absurd this.1 (by decide)
    · rw [if_neg h63] at this; exact ⟨h63, this⟩
  constructor
  · unfold wL wlK tailD tailK
    refine List.map_congr_left fun i hi => ?_
    exact if_neg (key i (List.mem_range.1 hi)).1
  · refine List.all_eq_true.2 fun i hi => ?_
    have hi := List.mem_range.1 hi
    rw [size_tailB (by omega)] at hi
    have := (key i hi).2
    unfold tailB
    rw [bAt_extract _ _ _ _ (by omega), isNum_iff]
    have h1 := this.1
    have h2 := this.2
    omega
end Go.Proofs.YtoenecgjiejljaaDoor

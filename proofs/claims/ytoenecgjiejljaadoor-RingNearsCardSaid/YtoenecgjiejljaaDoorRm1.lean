/-
  The ring of a series with a number: its bytes, and what is read of them. No program in sight.
-/
import Derived.Test.YtoenecgjiejljaaDoorSpl
import Derived.Test.YtoenecgjiejljaaDoorBlk
import Derived.Test.YtoenecgjiejljaaDoorSlb
import Derived.Test.YtoenecgjiejljaaDoorBh1
namespace Go.Proofs.YtoenecgjiejljaaDoor
open Go.RowKit
set_option linter.unusedVariables false

theorem bAt_bl (s : ByteArray) (i : Nat) : bAt s i = (((bl s).getD i 0).toNat : Int) := rfl
theorem bAt_sL (l : List UInt8) (i : Nat) : bAt (sL l) i = ((l.getD i 0).toNat : Int) := by rw [bAt_bl, bl_sL]
theorem digs_sL (l : List UInt8) : digs (sL l) = l.map fun c => (c.toNat : Int) - 48 := by
  apply List.ext_getElem?
  intro i
  unfold digs digsK
  rw [sL_size, List.getElem?_map, List.getElem?_map]
  by_cases h : i < l.length
  · rw [List.getElem?_range h, List.getElem?_eq_getElem h]
    simp [bAt_sL, List.getD, h]
  · rw [List.getElem?_eq_none (by simp; omega), List.getElem?_eq_none (by omega)]
    rfl
theorem isNum_dg {c : UInt8} : isNum ((c.toNat : Nat) : Int) = isDg c := by
  unfold isNum isDg
  congr 1 <;> rw [decide_eq_decide] <;> omega
theorem allNum_sL {l : List UInt8} (h : ∀ c ∈ l, isDg c = true) : allNum (sL l) = true := by
  refine List.all_eq_true.2 fun i hi => ?_
  have hi := List.mem_range.1 hi
  rw [sL_size] at hi
  rw [bAt_sL, List.getD_eq_getElem?_getD, List.getElem?_eq_getElem hi, Option.getD_some, isNum_dg]
  exact h _ (List.getElem_mem hi)
/-- So many digits of a number. -/
def padK : Nat → Nat → List UInt8
  | 0, _ => []
  | k + 1, n => padK k (n / 10) ++ [UInt8.ofNat (48 + n % 10)]
theorem padK_len : ∀ k n, (padK k n).length = k
  | 0, _ => rfl
  | k + 1, n => by simp [padK, padK_len k]
theorem padK_zero : ∀ k, padK k 0 = List.replicate k 48
  | 0 => rfl
  | k + 1 => by
    rw [padK, List.replicate_succ', Nat.zero_div, padK_zero k]
    rfl
theorem padK_D : ∀ k n, n < 10 ^ (k + 1) → List.replicate (k + 1 - (D n).length) 48 ++ D n = padK (k + 1) n
  | 0, n, h => by
    have h : n < 10 := by simpa using h
    rw [D_small h]
    simp [padK, Nat.mod_eq_of_lt h]
  | k + 1, n, h => by
    by_cases hn : n < 10
    · rw [D_small hn, padK, show n / 10 = 0 by omega, padK_zero, Nat.mod_eq_of_lt hn]
      simp
    · have h2 : n / 10 < 10 ^ (k + 1) := by
        rw [Nat.pow_succ] at h
        omega
      have ih := padK_D k (n / 10) h2
      rw [D_big hn, padK, ← ih, List.append_assoc]
      simp
theorem padK_dg : ∀ k n, ∀ c ∈ padK k n, isDg c = true
  | 0, _, c, h => by simp [padK] at h
  | k + 1, n, c, h => by
    rcases List.mem_append.1 h with h | h
    · exact padK_dg k _ c h
    · rw [List.mem_singleton.1 h, isDg_iff, ofNat_toNat (by omega)]
      omega
theorem dgt_int {d : Nat} (h : d < 10) : (((UInt8.ofNat (48 + d)).toNat : Nat) : Int) - 48 = d := by
  rw [ofNat_toNat (by omega)]
  omega
/-- The digits of a number, and its check digit as a byte. -/
def pdD (n : Nat) : List Int := (padK 5 n).map fun c => (c.toNat : Int) - 48
theorem pdD_eq {n : Nat} (h : n ≤ 99999) : pdD n = [((n / 10000 : Nat) : Int), ((n / 1000 % 10 : Nat) : Int), ((n / 100 % 10 : Nat) : Int), ((n / 10 % 10 : Nat) : Int), ((n % 10 : Nat) : Int)] := by
  unfold pdD
  simp only [padK, List.nil_append, List.cons_append, List.map_cons, List.map_nil]
  rw [dgt_int (by omega), dgt_int (by omega), dgt_int (by omega), dgt_int (by omega), dgt_int (by omega)]
  rw [show n / 10 / 10 / 10 / 10 % 10 = n / 10000 by omega, show n / 10 / 10 / 10 % 10 = n / 1000 % 10 by omega, show n / 10 / 10 % 10 = n / 100 % 10 by omega]
theorem pdD_dig (n : Nat) : ∀ x ∈ pdD n, Dig x := by
  intro x hx
  obtain ⟨c, hc, rfl⟩ := List.mem_map.1 hx
  have := isDg_iff.1 (padK_dg 5 n c hc)
  exact ⟨by omega, by omega⟩
def ckD (n : Nat) : Nat := (chkD (pdD n)).toNat
theorem ckD_lt (n : Nat) : ckD n < 10 ∧ (ckD n : Int) = chkD (pdD n) := by
  have := dig_chk (pdD_dig n)
  unfold Dig at this
  unfold ckD
  omega
/-- The digits of the ring with a number. -/
def rgT (n : Nat) : List UInt8 := padK 5 n ++ [UInt8.ofNat (48 + ckD n)]
theorem rgT_len (n : Nat) : (rgT n).length = 6 := by simp [rgT, padK_len]
theorem rgT_dg (n : Nat) : ∀ c ∈ rgT n, isDg c = true := by
  intro c h
  have h10 := (ckD_lt n).1
  rcases List.mem_append.1 h with h | h
  · exact padK_dg 5 n c h
  · rw [List.mem_singleton.1 h, isDg_iff, ofNat_toNat (by omega)]
    omega
def mkR (s : ByteArray) (n : Nat) : ByteArray := sL (bl s ++ rgT n)
theorem mkR_size (s : ByteArray) (n : Nat) : (mkR s n).size = s.size + 6 := by
  unfold mkR
  rw [sL_size, List.length_append, rgT_len, bl_len]
theorem mkR_head (s : ByteArray) (n : Nat) : headB (mkR s n) = s := by
  apply bl_inj
  unfold headB
  rw [bl_extract, mkR_size]
  unfold mkR
  rw [bl_sL, List.drop_zero, Nat.sub_zero, Nat.add_sub_cancel, ← bl_len, List.take_left]
theorem mkR_tail (s : ByteArray) (n : Nat) : tailB (mkR s n) = sL (rgT n) := by
  apply bl_inj
  unfold tailB
  rw [bl_extract, mkR_size]
  unfold mkR
  rw [bl_sL, bl_sL, Nat.add_sub_cancel, ← bl_len, List.drop_left, List.take_of_length_le (by rw [rgT_len]; omega)]
theorem mkR_digs (s : ByteArray) (n : Nat) : tailD (mkR s n) = pdD n ++ [chkD (pdD n)] := by
  rw [← digs_tailB (by rw [mkR_size]; omega), mkR_tail, digs_sL]
  unfold rgT
  rw [List.map_append, List.map_cons, List.map_nil, dgt_int (ckD_lt n).1, (ckD_lt n).2]
  rfl
theorem series_at {s : ByteArray} (h : seriesB s = true) : (s.size = 1 ∨ s.size = 2) ∧ ∀ i, i < s.size → isUp (bAt s i) = true := by
  unfold seriesB at h
  simp only [Bool.and_eq_true, Bool.or_eq_true, decide_eq_true_eq] at h
  exact ⟨h.1, fun i hi => List.all_eq_true.1 h.2 i (List.mem_range.2 hi)⟩
theorem mkR_form {s : ByteArray} (h : seriesB s = true) (n : Nat) : formB (mkR s n) false = true := by
  obtain ⟨h1, h2⟩ := series_at h
  refine formB_ok (by rw [mkR_size]; omega) fun i hi => ?_
  rw [mkR_size] at hi ⊢
  have e : ((s.size + 6 : Nat) : Int) - 6 = (s.size : Int) := by omega
  unfold okAt
  rw [e]
  by_cases hk : i < s.size
  · rw [if_pos (by omega)]
    have : bAt (mkR s n) i = bAt s i := by
      unfold mkR
      rw [bAt_sL, bAt_bl, List.getD_eq_getElem?_getD, List.getD_eq_getElem?_getD, List.getElem?_append_left (by rw [bl_len]; exact hk)]
    rw [this, h2 i hk]
    rfl
  · rw [if_neg (by omega)]
    have : bAt (mkR s n) i = (((rgT n).getD (i - s.size) 0).toNat : Int) := by
      unfold mkR
      rw [bAt_sL, List.getD_eq_getElem?_getD, List.getD_eq_getElem?_getD, List.getElem?_append_right (by rw [bl_len]; omega), bl_len]
    have hl : i - s.size < (rgT n).length := by rw [rgT_len]; omega
    rw [this, List.getD_eq_getElem?_getD, List.getElem?_eq_getElem hl, Option.getD_some, isNum_dg, rgT_dg n _ (List.getElem_mem hl)]
    rfl
theorem mkR_valid {s : ByteArray} (h : seriesB s = true) (n : Nat) : validE (mkR s n) = 0 := by
  unfold validE
  rw [if_pos (mkR_form h n), mkR_digs, if_pos ((chk_iff (pdD_dig n) (dig_chk (pdD_dig n))).2 rfl)]
theorem mkR_num (s : ByteArray) {n : Nat} (hn : n ≤ 99999) : numB (mkR s n) = (n : Int) := by
  have hd := mkR_digs s n
  rw [pdD_eq hn] at hd
  have ht : ∀ k, k < 6 → bAt (mkR s n) ((mkR s n).size - 6 + k) - 48 = (tailD (mkR s n)).getD k 0 := by
    intro k hk
    rw [List.getD_eq_getElem?_getD, tail_at hk]
    rfl
  rw [hd] at ht
  have h0 := ht 0 (by omega)
  have h1 := ht 1 (by omega)
  have h2 := ht 2 (by omega)
  have h3 := ht 3 (by omega)
  have h4 := ht 4 (by omega)
  simp only [List.cons_append, List.getD_cons_zero, List.getD_cons_succ] at h0 h1 h2 h3 h4
  unfold numB
  simp only [numK]
  rw [h0, h1, h2, h3, h4]
  omega
/-- What Make returns. -/
def mkE (s : ByteArray) (n : Int) : Int := if seriesB s then (if 0 ≤ n ∧ n ≤ 99999 then 0 else 1) else 2
def mkS (s : ByteArray) (n : Int) : ByteArray := if mkE s n = 0 then mkR s n.toNat else ⟨#[]⟩
theorem mkE_0 {s : ByteArray} {n : Int} (h : mkE s n = 0) : seriesB s = true ∧ 0 ≤ n ∧ n ≤ 99999 := by
  unfold mkE at h
  split at h
  · rename_i hs
    split at h
    · rename_i hn
      exact ⟨hs, hn⟩
    · exact absurd h (by decide)
  · exact absurd h (by decide)
theorem mkE_ok {s : ByteArray} {n : Int} (hs : seriesB s = true) (h0 : 0 ≤ n) (h1 : n ≤ 99999) : mkE s n = 0 := by
  unfold mkE
  rw [if_pos hs, if_pos ⟨h0, h1⟩]
theorem mk_back {s : ByteArray} {n : Int} (h : mkE s n = 0) : validE (mkS s n) = 0 ∧ splitS (mkS s n) = s ∧ splitN (mkS s n) = n := by
  obtain ⟨hs, h0, h1⟩ := mkE_0 h
  have hv := mkR_valid hs n.toNat
  unfold mkS splitS splitN
  rw [if_pos h, if_pos hv, if_pos hv, mkR_head, mkR_num s (by omega)]
  exact ⟨hv, rfl, by omega⟩
theorem mk_size {s : ByteArray} {n : Int} (h : mkE s n = 0) : (mkS s n).size = s.size + 6 := by
  unfold mkS
  rw [if_pos h, mkR_size]
/-- The next ring. -/
def nxE (s : ByteArray) : Int := if validE s = 0 then (if numB s = 99999 then 3 else 0) else validE s
def nxS (s : ByteArray) : ByteArray := if nxE s = 0 then mkR (headB s) (numB s + 1).toNat else ⟨#[]⟩
theorem head_series {s : ByteArray} (h : formB s false = true) : seriesB (headB s) = true := by
  have hs := form_size h
  have hz : (headB s).size = s.size - 6 := by simp [headB]
  refine series_ok (by rw [hz]; omega) fun i hi => ?_
  rw [hz] at hi
  have := form_at h (i := i) (by omega)
  unfold okAt at this
  rw [if_pos (by omega)] at this
  unfold headB
  rw [bAt_extract _ _ _ _ (by omega), Nat.zero_add]
  simpa using this
end Go.Proofs.YtoenecgjiejljaaDoor

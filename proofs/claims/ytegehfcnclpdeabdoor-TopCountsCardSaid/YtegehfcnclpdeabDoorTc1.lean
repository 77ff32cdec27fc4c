/-
  What the theorem on counts adds up: rows of catches, and the most likely number. Nothing of the program.
-/
import Derived.Test.YtegehfcnclpdeabDoorHsf
import Derived.Test.YtegehfcnclpdeabDoorCd4
import Derived.Test.YtegehfcnclpdeabDoorCc7
namespace Go.Proofs.YtegehfcnclpdeabDoor
open Go.RowKit
set_option linter.unusedVariables false

theorem cnt_mono {P Q : ByteArray → Bool} {C : List ByteArray} (h : ∀ s ∈ C, P s = true → Q s = true) : cnt P C C.length ≤ cnt Q C C.length := by
  unfold cnt
  rw [List.take_length]
  exact List.countP_mono_left h
theorem cnt_all {P : ByteArray → Bool} {C : List ByteArray} (h : ∀ s ∈ C, P s = true) : cnt P C C.length = C.length := by
  unfold cnt
  rw [List.take_length]
  exact List.countP_eq_length.2 h
def c3L (K : Nat → Nat) (n : Nat) : List C3 := (List.range n).map fun i => ⟨(K (i * 3) : Int), (K (i * 3 + 1) : Int), (K (i * 3 + 2) : Int)⟩
theorem c3L_len (K : Nat → Nat) (n : Nat) : (c3L K n).length = n := by simp [c3L]
theorem c3L_cells (K : Nat → Nat) : ∀ n, (c3L K n).flatMap C3.cells = ints (rowZ K (n * 3))
  | 0 => rfl
  | n + 1 => by
    have e : c3L K (n + 1) = c3L K n ++ [⟨(K (n * 3) : Int), (K (n * 3 + 1) : Int), (K (n * 3 + 2) : Int)⟩] := by
      unfold c3L
      rw [List.range_succ]
      simp
    rw [e, List.flatMap_append, c3L_cells K n, show (n + 1) * 3 = n * 3 + 1 + 1 + 1 by omega, rowZ_snoc, rowZ_snoc, rowZ_snoc]
    simp [C3.cells]
theorem c3L_ok {K : Nat → Nat} {n : Nat} (h : ∀ p, p < n * 3 → K p ≤ 60) (ha : ∀ i, i < n → K (i * 3 + 2) ≤ K (i * 3) ∧ K (i * 3 + 2) ≤ K (i * 3 + 1)) (hn : n ≤ 8) : dvE (c3L K n) = 0 := by
  unfold dvE
  rw [c3L_len, if_neg (by omega)]
  refine dvF_ok fun q hq => ?_
  unfold c3L at hq
  obtain ⟨i, hi, rfl⟩ := List.mem_map.1 hq
  have hi' := List.mem_range.1 hi
  have h0 := h (i * 3) (by omega)
  have h1 := h (i * 3 + 1) (by omega)
  have h2 := h (i * 3 + 2) (by omega)
  obtain ⟨h3, h4⟩ := ha i hi'
  show cpE (K (i * 3) : Int) (K (i * 3 + 1) : Int) (K (i * 3 + 2) : Int) = 0
  unfold cpE
  rw [if_pos (allB3_iff.2 ⟨by omega, by omega, by omega⟩)]
  exact if_pos (by unfold fitB; simp; omega)
theorem tc_rows {C : List ByteArray} (hv : vhE C = 0) : ∃ K n F V, catC C = (c3L K n).flatMap C3.cells ∧ catC C = ints (rowZ K (n * 3)) ∧ catN C = n ∧ dayL avB C = rowZ V n ∧ dayL nwB C = rowZ F n ∧ n ≤ 8 ∧ dvE (c3L K n) = 0 ∧ (∀ i, i < n → F i ≤ 60 ∧ V i ≤ 60 ∧ K (i * 3 + 1) ≤ 60 ∧ K (i * 3 + 2) ≤ 60) ∧ (∀ i, i < n → K (i * 3 + 1) = K (i * 3 + 2) + F i ∧ K (i * 3 + 1) ≤ V i ∧ V i ≤ sm F i + F i) ∧ sm F n = C.length := by
  obtain ⟨h60, hall⟩ := vh_bird hv
  have hc : ∀ P : ByteArray → Bool, cnt P C C.length ≤ 60 := fun P => Nat.le_trans (cnt_le P C C.length) h60
  have hK : ∀ p, catG C p ≤ 60 := fun p => by
    unfold catG
    split
    · exact hc _
    · split
      · exact hc _
      · exact hc _
  refine ⟨catG C, D0 C, fun i => cnt (nwB · i) C C.length, fun i => cnt (avB · i) C C.length, ?_, if_pos hv, if_pos hv, if_pos hv, if_pos hv, D0_le hv, c3L_ok (fun p _ => hK p) (fun i hi => ?_) (D0_le hv), fun i _ => ⟨hc _, hc _, hK _, hK _⟩, fun i hi => ⟨?_, ?_, ?_⟩, ?_⟩
  · rw [c3L_cells]; exact if_pos hv
  · rw [catG_0, catG_1, catG_2]
    refine ⟨cnt_mono fun s _ h => ?_, cnt_mono fun s _ h => ?_⟩
    · unfold agB at h; rw [Bool.and_eq_true] at h; exact h.2
    · unfold agB at h; rw [Bool.and_eq_true] at h; exact h.1
  · rw [catG_1, catG_2]
    refine cnt_add (fun s hs => ?_) _ (Nat.le_refl _)
    obtain ⟨f, l, ef, _, _, _, hhf, _, hf0, _, _⟩ := lv_one (hall s hs).2.2.2
    unfold agB mkB nwB one01
    rw [ef]
    rcases Nat.lt_trichotomy f i with h1 | h1 | h1
    · rw [show ((f : Int) == (i : Int)) = false by simp; omega, decide_eq_true (show (f : Int) < (i : Int) by omega), Bool.and_true]
      simp
    · subst h1
      rw [hhf]
      simp
    · rw [hf0 i h1, show ((f : Int) == (i : Int)) = false by simp; omega]
      simp
  · rw [catG_1]
    refine cnt_mono fun s hs h => ?_
    obtain ⟨f, l, ef, el, _, _, _, _, hf0, hl0, _⟩ := lv_one (hall s hs).2.2.2
    unfold avB
    rw [ef, el, Bool.and_eq_true, decide_eq_true_eq, decide_eq_true_eq]
    refine ⟨?_, ?_⟩
    · rcases Nat.lt_or_ge i f with h1 | h1
      · rw [hf0 i h1] at h; cases h
      · omega
    · rcases Nat.lt_or_ge l i with h1 | h1
      · rw [hl0 i h1] at h; cases h
      · omega
  · have e : sm (fun i => cnt (nwB · i) C C.length) i + cnt (nwB · i) C C.length = cnt (mkB · (i + 1)) C C.length := (marked_sum hv (i + 1)).symm
    show cnt (avB · i) C C.length ≤ sm (fun i => cnt (nwB · i) C C.length) i + cnt (nwB · i) C C.length
    rw [e]
    refine cnt_mono fun s hs h => ?_
    unfold avB at h
    unfold mkB
    rw [Bool.and_eq_true, decide_eq_true_eq, decide_eq_true_eq] at h
    rw [decide_eq_true_eq]
    omega
  · rw [← marked_sum hv]
    refine cnt_all fun s hs => ?_
    obtain ⟨f, l, ef, _, hfl, hls, _⟩ := lv_one (hall s hs).2.2.2
    have := (hall s hs).2.1
    unfold mkB
    rw [ef, decide_eq_true_eq]
    omega
/-- The most likely number. -/
theorem best_facts {m c a : Int} (hk : beK m c a = true) : ((0 ≤ m ∧ m ≤ 60) ∧ (0 ≤ c ∧ c ≤ 60) ∧ 0 ≤ a ∧ a ≤ 60) ∧ m + c - a ≤ (beV m c a : Int) ∧ beV m c a ≤ 60 ∧ 0 ≤ m + c - a ∧
    (∀ n : Nat, m + c - a < (n : Int) → n ≤ 60 → odE n m c a = 0 ∧ 1 ≤ (odV n m c a).2 ∧ (odV n m c a).1 ≤ 3600 ∧ (odV n m c a).2 ≤ 3600 ∧ decide ((odV n m c a).2 < (odV n m c a).1) = decide (n ≤ beV m c a)) ∧
    chE (beV m c a) m c c = 0 ∧ amV (beV m c a) m c c = (1, 1) := by
  have hV : beV m c a = bstN (m + c - a).toNat m.toNat c.toNat a.toNat (60 - (m + c - a).toNat) := if_pos hk
  unfold beK at hk
  simp only [Bool.and_eq_true, decide_eq_true_eq] at hk
  obtain ⟨hv, ⟨h1, h2⟩, h3⟩ := hk
  obtain ⟨hm, hc, h0⟩ := allB3 hv
  obtain ⟨M, hM⟩ : ∃ M : Nat, m = M := ⟨m.toNat, by omega⟩
  obtain ⟨C, hC⟩ : ∃ C : Nat, c = C := ⟨c.toNat, by omega⟩
  obtain ⟨D, hD⟩ : ∃ D : Nat, a = D := ⟨a.toNat, by omega⟩
  obtain ⟨l, hl⟩ : ∃ l : Nat, m + c - a = l := ⟨(m + c - a).toNat, by omega⟩
  rw [hl] at hV h3 ⊢
  rw [show m.toNat = M by omega, show c.toNat = C by omega, show a.toNat = D by omega, Int.toNat_natCast] at hV
  have hb := bst_best (m := M) (c := C) (a := D) (l := l) (by omega) (by omega) (by omega) (60 - l)
  have hr := bst_range (fun n => wy n M C D) (fun n => ch n C) l (60 - l)
  rw [← show beV m c a = bst (fun n => wy n M C D) (fun n => ch n C) l (60 - l) from hV] at hb hr
  generalize beV m c a = x at *
  obtain ⟨_, hx, hup⟩ := hb
  refine ⟨⟨hm, hc, h0⟩, by omega, by omega, by omega, fun n hn hn60 => ?_, ?_, ?_⟩
  · have hE : odE n m c a = 0 := by
      unfold odE
      rw [if_pos (allB4_iff.2 ⟨by omega, hm, hc, h0⟩), if_neg (by omega), if_neg]
      rw [show ((n : Int) - 1).toNat = n - 1 by omega, show m.toNat = M by omega, show c.toNat = C by omega, show a.toNat = D by omega, wN_fit (by omega) (by omega)]
      have := wy_pos (n := n - 1) (m := M) (c := C) (a := D) (by omega) (by omega) (by omega)
      omega
    have hO : odV n m c a = fr ((n - M) * (n - C)) (n * (n + D - M - C)) := by
      unfold odV
      rw [if_pos hE]
      have e1 : ((n : Int) - m) * ((n : Int) - c) = (((n - M) * (n - C) : Nat) : Int) := by
        rw [Int.natCast_mul, show (n : Int) - m = ((n - M : Nat) : Int) by omega, show (n : Int) - c = ((n - C : Nat) : Int) by omega]
      have e2 : (n : Int) * ((n : Int) - m - c + a) = ((n * (n + D - M - C) : Nat) : Int) := by
        rw [Int.natCast_mul, show (n : Int) - m - c + a = ((n + D - M - C : Nat) : Int) by omega]
      rw [e1, e2, Int.toNat_natCast, Int.toNat_natCast]
    have hpos : 0 < n * (n + D - M - C) := Nat.mul_pos (by omega) (by omega)
    have b1 : (n - M) * (n - C) ≤ 60 * 60 := Nat.mul_le_mul (by omega) (by omega)
    have b2 : n * (n + D - M - C) ≤ 60 * 60 := Nat.mul_le_mul (by omega) (by omega)
    have hle := fr_le ((n - M) * (n - C)) (n * (n + D - M - C))
    have hp := fr_pos (n := (n - M) * (n - C)) hpos
    have hmul := fr_mul (n := (n - M) * (n - C)) hpos
    have hg := gcd_pos' (n := (n - M) * (n - C)) hpos
    have ho := odds_lt (n := n) (m := M) (c := C) (a := D) (by omega) (by omega) (by omega)
    rw [hO]
    refine ⟨hE, hp, by omega, by omega, ?_⟩
    rw [decide_eq_decide]
    generalize Nat.gcd ((n - M) * (n - C)) (n * (n + D - M - C)) = g at *
    generalize fr ((n - M) * (n - C)) (n * (n + D - M - C)) = q at *
    have hlt : q.2 < q.1 ↔ n * (n + D - M - C) < (n - M) * (n - C) := by
      rw [← hmul.1, ← hmul.2]
      exact (Nat.mul_lt_mul_right hg).symm
    rw [hlt, ho]
    constructor
    · exact fun h => hup n (by omega) (by omega) h
    · intro h
      rcases hx with hx | hx
      · omega
      · exact Nat.lt_of_le_of_lt (Nat.mul_le_mul_right D h) hx
  · unfold chE
    rw [if_pos (allB4_iff.2 ⟨by omega, hm, hc, hc⟩)]
    simp
    omega
  · unfold amV
    rw [if_pos]
    · unfold amN
      rw [show c.toNat = C by omega, show m.toNat = M by omega, Int.toNat_natCast, upW_all (by omega)]
      exact fr_self (ch_pos (by omega))
    · unfold chE
      rw [if_pos (allB4_iff.2 ⟨by omega, hm, hc, hc⟩)]
      simp
      omega
end Go.Proofs.YtegehfcnclpdeabDoor

/-
  The fewest pipes: two ways of looking for the smallest set come to the same one. No program in sight.
-/
import Derived.Test.YtfokmgogbjifbaaWi18
namespace Go.Proofs.Ytfokmgogbjifbaa
open Go.RowKit
set_option linter.unusedVariables false

def covF (l : List Pt) (n : Nat) : Bool := decide (covN l n.testBit = 4294967295)
def ltF (a b : Nat) : Bool := decide (cfI (listB a.testBit) (listB b.testBit) < 0)
theorem ltF_trans {a b c : Nat} (h1 : ltF a b = true) (h2 : ltF b c = true) : ltF a c = true := by
  unfold ltF at *
  rw [decide_eq_true_eq] at *
  exact cfI_trans h1 h2
theorem ltF_tri {a b : Nat} (h1 : ltF a b = false) (h2 : ltF b a = false) : listB a.testBit = listB b.testBit := by
  unfold ltF at *
  exact cfI_tri (of_decide_eq_false h1) (of_decide_eq_false h2)
theorem ltF_irr (a : Nat) : ltF a a = false := by
  unfold ltF
  rw [decide_eq_false_iff_not, cfI_same rfl]
  have := lexC_swap (listB a.testBit) (listB a.testBit)
  omega
def fewP (l : List Pt) : Nat → Nat
  | 0 => 2 ^ l.length - 1
  | k + 1 => if covF l k && ltF k (fewP l k) then k else fewP l k
theorem fewP_yes {l : List Pt} {k : Nat} (h : (covF l k && ltF k (fewP l k)) = true) : fewP l (k + 1) = k := by rw [fewP, if_pos h]
theorem fewP_no {l : List Pt} {k : Nat} (h : (covF l k && ltF k (fewP l k)) = false) : fewP l (k + 1) = fewP l k := by rw [fewP, if_neg (by rw [h]; decide)]
theorem fewP_lt {l : List Pt} : ∀ {k : Nat}, k ≤ 2 ^ l.length - 1 → fewP l k ≤ 2 ^ l.length - 1
  | 0, _ => Nat.le_refl _
  | k + 1, h => by
    have ih := fewP_lt (l := l) (k := k) (by omega)
    rw [fewP]
    split <;> omega
theorem fewP_min {l : List Pt} (hall : covF l (2 ^ l.length - 1) = true) : ∀ k, covF l (fewP l k) = true ∧ ltF (2 ^ l.length - 1) (fewP l k) = false ∧ ∀ n, n < k → covF l n = true → ltF n (fewP l k) = false
  | 0 => ⟨hall, ltF_irr _, fun n hn => by omega⟩
  | k + 1 => by
    obtain ⟨h1, h2, h3⟩ := fewP_min hall k
    cases hq : (covF l k && ltF k (fewP l k))
    · rw [fewP_no hq]
      refine ⟨h1, h2, fun n hn hc => ?_⟩
      rcases Nat.lt_or_ge n k with h | h
      · exact h3 n h hc
      · obtain rfl : n = k := by omega
        rw [hc] at hq
        simpa using hq
    · rw [fewP_yes hq]
      rw [Bool.and_eq_true] at hq
      have step : ∀ m, ltF m (fewP l k) = false → ltF m k = false := fun m hm => by
        cases hb : ltF m k
        · rfl
        · rw [ltF_trans hb hq.2] at hm; cases hm
      refine ⟨hq.1, step _ h2, fun n hn hc => ?_⟩
      rcases Nat.lt_or_ge n k with h | h
      · exact step n (h3 n h hc)
      · obtain rfl : n = k := by omega
        exact ltF_irr _
def fewQ (l : List Pt) : Nat → Option Nat
  | 0 => none
  | k + 1 => match fewQ l k with
    | none => if covF l k then some k else none
    | some b => if ltF k b && covF l k then some k else some b
theorem fewQ_min (l : List Pt) : ∀ k, (fewQ l k = none → ∀ n, n < k → covF l n = false) ∧ ∀ b, fewQ l k = some b → b < k ∧ covF l b = true ∧ ∀ n, n < k → covF l n = true → ltF n b = false
  | 0 => ⟨fun _ n hn => by omega, fun b h => by cases h⟩
  | k + 1 => by
    obtain ⟨h1, h2⟩ := fewQ_min l k
    cases hq : fewQ l k with
    | none =>
      cases hc : covF l k
      · have e : fewQ l (k + 1) = none := by rw [fewQ, hq]; simp [hc]
        refine ⟨fun _ n hn => ?_, fun b hb => by rw [e] at hb; cases hb⟩
        rcases Nat.lt_or_ge n k with h | h
        · exact h1 hq n h
        · obtain rfl : n = k := by omega
          exact hc
      · have e : fewQ l (k + 1) = some k := by rw [fewQ, hq]; simp [hc]
        refine ⟨fun h => (by rw [e] at h; cases h), fun b hb => ?_⟩
        rw [e] at hb
        obtain rfl := Option.some.inj hb
        refine ⟨by omega, hc, fun n hn hcn => ?_⟩
        rcases Nat.lt_or_ge n k with h | h
        · rw [h1 hq n h] at hcn; cases hcn
        · obtain rfl : n = k := by omega
          exact ltF_irr _
    | some b =>
      obtain ⟨g1, g2, g3⟩ := h2 b hq
      cases hc : (ltF k b && covF l k)
      · have e : fewQ l (k + 1) = some b := by rw [fewQ, hq]; simp [hc]
        refine ⟨fun h => (by rw [e] at h; cases h), fun c hb => ?_⟩
        rw [e] at hb
        obtain rfl := Option.some.inj hb
        refine ⟨by omega, g2, fun n hn hcn => ?_⟩
        rcases Nat.lt_or_ge n k with h | h
        · exact g3 n h hcn
        · obtain rfl : n = k := by omega
          rw [hcn] at hc
          simpa using hc
      · have e : fewQ l (k + 1) = some k := by rw [fewQ, hq]; simp [hc]
        rw [Bool.and_eq_true] at hc
        refine ⟨fun h => (by rw [e] at h; cases h), fun c hb => ?_⟩
        rw [e] at hb
        obtain rfl := Option.some.inj hb
        refine ⟨by omega, hc.2, fun n hn hcn => ?_⟩
        rcases Nat.lt_or_ge n k with h | h
        · cases hl : ltF n k
          · rfl
          · have := g3 n h hcn
            rw [ltF_trans hl hc.1] at this
            cases this
        · obtain rfl : n = k := by omega
          exact ltF_irr _
theorem covF_mono {l : List Pt} {n : Nat} (h : covF l n = true) : covF l (2 ^ l.length - 1) = true := by
  unfold covF at *
  rw [decide_eq_true_eq] at *
  rw [cov_every]
  refine cov_full fun p hp => ?_
  have := bitK_full h hp
  unfold covB covK at this ⊢
  rw [List.any_eq_true] at this ⊢
  obtain ⟨i, hi, hb⟩ := this
  rw [Bool.and_eq_true] at hb
  exact ⟨i, hi, by rw [hb.2]; rfl⟩
def fewOk (l : List Pt) : Bool := decide (pipesE l = 0) && covF l (2 ^ l.length - 1)
def fewL (l : List Pt) : List Int := if fewOk l then listB (fewP l (2 ^ l.length - 1)).testBit else []
/-- Both ways come to the same set. -/
theorem few_same {l : List Pt} (h0 : pipesE l = 0) : (fewQ l (2 ^ l.length) = none ∧ fewOk l = false) ∨ ∃ b, fewQ l (2 ^ l.length) = some b ∧ fewOk l = true ∧ b < 2 ^ l.length ∧ fewL l = listB b.testBit := by
  obtain ⟨h1, h2⟩ := fewQ_min l (2 ^ l.length)
  have hp := Nat.two_pow_pos l.length
  cases hq : fewQ l (2 ^ l.length) with
  | none =>
    left
    refine ⟨rfl, ?_⟩
    unfold fewOk
    rw [h1 hq _ (by omega), Bool.and_false]
  | some b =>
    right
    obtain ⟨g1, g2, g3⟩ := h2 b hq
    have hall := covF_mono g2
    have hok : fewOk l = true := by unfold fewOk; rw [h0, hall]; rfl
    refine ⟨b, rfl, hok, g1, ?_⟩
    unfold fewL
    rw [if_pos hok]
    obtain ⟨m1, m2, m3⟩ := fewP_min hall (2 ^ l.length - 1)
    have hle := fewP_lt (l := l) (k := 2 ^ l.length - 1) (Nat.le_refl _)
    refine ltF_tri (g3 _ (by omega) m1) ?_
    rcases Nat.lt_or_ge b (2 ^ l.length - 1) with h | h
    · exact m3 b h g2
    · obtain rfl : b = 2 ^ l.length - 1 := by omega
      exact m2
/-- The members of a number, where none is above k. -/
theorem listK_high {f : Nat → Bool} {k : Nat} (h : ∀ j, k ≤ j → f j = false) : ∀ {m : Nat}, k ≤ m → listK f m = listK f k := by
  intro m hm
  induction m with
  | zero =>
    obtain rfl : k = 0 := by omega
    rfl
  | succ m ih =>
    rcases Nat.lt_or_ge m k with h1 | h1
    · obtain rfl : k = m + 1 := by omega
      rfl
    · rw [listK_no (h m h1), ih h1]
theorem high_bits {n k j : Nat} (hn : n < 2 ^ k) (hj : k ≤ j) : n.testBit j = false :=
  Nat.testBit_lt_two_pow (Nat.lt_of_lt_of_le hn (Nat.pow_le_pow_right (by omega) hj))
theorem listB_small {n k : Nat} (hn : n < 2 ^ k) (hk : k ≤ 32) : listB n.testBit = listK n.testBit k := listK_high (fun j hj => high_bits hn hj) hk
theorem memB_listK (f : Nat → Bool) (k i : Nat) (hi : i < k) : memB (listK f k) i = f i := by
  rw [Bool.eq_iff_iff, memB_iff]
  constructor
  · intro h
    obtain ⟨j, he, _, hf⟩ := listK_mem h
    have : i = j := by omega
    rw [this]; exact hf
  · intro h
    exact List.mem_map.2 ⟨i, by simp [hi, h], rfl⟩
theorem setL_listK (f : Nat → Bool) (k : Nat) : setL k (listK f k) = true := by
  have hp : (listK f k).Pairwise (· < ·) := by
    unfold listK
    rw [List.pairwise_map]
    refine List.Pairwise.imp (fun {a b} h => ?_) (List.Pairwise.filter _ List.pairwise_lt_range)
    exact Int.ofNat_lt.2 h
  refine setL_ok fun j hj => ?_
  have hm : (listK f k)[j]? = some (listK f k)[j] := List.getElem?_eq_getElem hj
  obtain ⟨m, he, hlt, _⟩ := listK_mem (List.getElem_mem hj)
  unfold okI
  rw [getD_at hm, he, Bool.and_eq_true, decide_eq_true_eq, decide_eq_true_eq]
  refine ⟨?_, by omega⟩
  unfold prv
  by_cases h0 : j = 0
  · rw [if_pos h0]; omega
  · rw [if_neg h0]
    have hm2 : (listK f k)[j - 1]? = some (listK f k)[j - 1] := List.getElem?_eq_getElem (by omega)
    rw [getD_at hm2, ← he]
    exact List.pairwise_iff_getElem.1 hp (j - 1) j (by omega) hj (by omega)
theorem cov_mem (l : List Pt) (n : Nat) : decide (covN l (memB (listK n.testBit l.length)) = 4294967295) = covF l n := by
  unfold covF
  rw [covN_congr (g := n.testBit) fun i hi => memB_listK _ _ _ hi]
theorem lee_cov {l : List Pt} (h : pipesE l = 0) : decide (leeN l = 0) = covF l (2 ^ l.length - 1) := by
  unfold covF
  rw [cov_every, decide_eq_decide]
  constructor
  · intro h0
    refine cov_full fun p hp => ?_
    have := bitK_test (leeB l) 32 p hp
    unfold leeN at h0
    rw [h0, Nat.zero_testBit] at this
    unfold leeB at this
    simpa using this.symm
  · intro h0
    refine bitK_zero fun p hp => ?_
    unfold leeB
    rw [bitK_full h0 hp]
    rfl
end Go.Proofs.Ytfokmgogbjifbaa

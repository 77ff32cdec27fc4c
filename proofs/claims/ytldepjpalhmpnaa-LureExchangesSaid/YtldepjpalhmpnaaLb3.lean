/-
  Games: which lists prove wins, which sets are traps; what is accepted tells of the levels. No program in sight.
-/
import Derived.Test.YtldepjpalhmpnaaLb2
namespace Go.Proofs.Ytldepjpalhmpnaa
open Go.RowKit
set_option linter.unusedVariables false

/-- The error of a game and a set. -/
def askE (G : Gm) (L : List Int) : Int := if gE G = 0 then (if setL G.own.length L = true then 0 else 1) else gE G
theorem askE_zero {G : Gm} {L : List Int} (h : askE G L = 0) : gE G = 0 ∧ setL G.own.length L = true := by
  unfold askE at h
  split at h
  · rename_i h1
    refine ⟨h1, ?_⟩
    split at h
    · assumption
    · cases h
  · contradiction
theorem askE_yes {G : Gm} {L : List Int} (h : gE G = 0) (g : setL G.own.length L = true) : askE G L = 0 := by unfold askE; rw [if_pos h, if_pos g]
theorem askE_no {G : Gm} {L : List Int} (h : gE G = 0) (g : setL G.own.length L = false) : askE G L = 1 := by unfold askE; rw [if_pos h, if_neg (by rw [g]; decide)]
theorem askE_bad {G : Gm} {L : List Int} (h : ¬ gE G = 0) : askE G L = gE G := if_neg h
theorem gat_lt {n : Nat} {L : List Int} (h : setL n L = true) (hn : n ≤ 32) : gatN L < 2 ^ n := by
  apply Nat.lt_pow_two_of_testBit
  intro j hj
  rcases Nat.lt_or_ge j 32 with h1 | h1
  · unfold gatN
    rw [bitK_test _ _ _ h1]
    cases hb : memB L j
    · rfl
    · have := set_mem h (memB_iff.1 hb)
      omega
  · exact high_bits (show gatN L < 2 ^ 32 from bit32 _) h1
theorem gat_at {n : Nat} {L : List Int} (h : setL n L = true) (hn : n ≤ 32) (j : Nat) : (gatN L).testBit j = memB L j := by
  rcases Nat.lt_or_ge j 32 with h1 | h1
  · unfold gatN
    rw [bitK_test _ _ _ h1]
  · rw [high_bits (show gatN L < 2 ^ 32 from bit32 _) h1]
    cases hb : memB L j
    · rfl
    · have := set_mem h (memB_iff.1 hb)
      omega

/-! ### Lists that prove wins -/
def inR (m : Int) (r : Int) : Bool := decide (0 ≤ r) && decide (r ≤ m)
def numN (R : List Int) (m : Int) : Nat := bitK (fun p => inR m (R.getD p (-1))) R.length
def areB (r : Int) : Bool := decide (-1 ≤ r) && decide (r ≤ 16)
def crB (G : Gm) (goal : Nat) (R : List Int) (p : Nat) : Bool :=
  if R.getD p (-1) = 0 then goal.testBit p else if 0 < R.getD p (-1) then fcB G 0 (numN R (R.getD p (-1) - 1)) p else true
def areL (G : Gm) (R : List Int) : Bool := R.all areB && decide (R.length = G.own.length)
def crE (G : Gm) (L R : List Int) : Int :=
  if askE G L = 0 then (if areL G R = true then (if (List.range G.own.length).all (crB G (gatN L) R) = true then 0 else 7) else 1) else askE G L
theorem areL_iff {G : Gm} {R : List Int} : areL G R = true ↔ (∀ r ∈ R, -1 ≤ r ∧ r ≤ 16) ∧ R.length = G.own.length := by
  unfold areL
  rw [Bool.and_eq_true, List.all_eq_true, decide_eq_true_eq]
  simp [areB]
theorem crE_zero {G : Gm} {L R : List Int} (h : crE G L R = 0) : askE G L = 0 ∧ areL G R = true ∧ ∀ p, p < G.own.length → crB G (gatN L) R p = true := by
  unfold crE at h
  split at h
  · rename_i h1
    refine ⟨h1, ?_⟩
    split at h
    · rename_i h2
      refine ⟨h2, ?_⟩
      split at h
      · rename_i h3
        exact fun p hp => List.all_eq_true.1 h3 p (List.mem_range.2 hp)
      · cases h
    · cases h
  · contradiction
theorem inR_iff {m r : Int} : inR m r = true ↔ 0 ≤ r ∧ r ≤ m := by simp [inR]
theorem num_at {R : List Int} {m : Int} {p : Nat} : (numN R m).testBit p = true ↔ 0 ≤ R.getD p (-1) ∧ R.getD p (-1) ≤ m := by
  unfold numN
  constructor
  · intro h
    have hp := bit_in (bitK_lt _ _) h
    rw [bitK_test _ _ _ hp, inR_iff] at h
    exact h
  · intro h
    have hp : p < R.length := by
      rcases Nat.lt_or_ge p R.length with g | g
      · exact g
      · rw [List.getD_eq_getElem?_getD, List.getElem?_eq_none g] at h
        simp at h
    rw [bitK_test _ _ _ hp, inR_iff]
    exact h
/-- A list that is accepted has numbers at places that are won only. -/
theorem cr_won {G : Gm} {L R : List Int} (h : crE G L R = 0) (hg : gatN L < 2 ^ G.own.length) : ∀ (m : Nat) (p : Nat), p < G.own.length → R.getD p (-1) = (m : Int) → (lv G (gatN L) (m + 1)).testBit p = true := by
  obtain ⟨_, _, hc⟩ := crE_zero h
  intro m
  induction m using Nat.strongRecOn with
  | _ m ih =>
    intro p hp hr
    have h1 := hc p hp
    unfold crB at h1
    rw [hr] at h1
    cases m with
    | zero =>
      rw [if_pos (by rfl)] at h1
      show (_ ||| _ : Nat).testBit p = true
      rw [Nat.testBit_or, h1]; rfl
    | succ m =>
      rw [if_neg (by omega), if_pos (by omega)] at h1
      show (_ ||| _ : Nat).testBit p = true
      rw [Nat.testBit_or, fcN_at hp]
      have : fcB G 0 (lv G (gatN L) (m + 1)) p = true := by
        refine fcB_mono (fun j hj => ?_) h1
        rw [num_at] at hj
        obtain ⟨i, hi⟩ := Int.eq_ofNat_of_zero_le hj.1
        have hjn : j < G.own.length := by
          have hl := (areL_iff.1 (crE_zero h).2.1).2
          rcases Nat.lt_or_ge j G.own.length with g | g
          · exact g
          · rw [List.getD_eq_getElem?_getD, List.getElem?_eq_none (by omega)] at hj
            simp at hj
        have := ih i (by omega) j hjn hi
        exact lv_mono (by omega) j this
      rw [this, Bool.or_true]
theorem cr_free {G : Gm} {L R : List Int} (h : crE G L R = 0) (hg : gatN L < 2 ^ G.own.length) {p : Nat} (hp : p < G.own.length) (hr : 0 ≤ R.getD p (-1)) : (wonN G (gatN L)).testBit p = true := by
  obtain ⟨m, hm⟩ := Int.eq_ofNat_of_zero_le hr
  have := cr_won h hg m p hp hm
  rw [rk_iff hg] at this
  exact (rk_won hg p).2 this.1
theorem rkL_getD {G : Gm} {goal p : Nat} (hp : p < G.own.length) : (rkL G goal).getD p (-1) = rkI G goal p := by
  rw [List.getD_eq_getElem?_getD, rkL_at hp]; rfl
theorem num_rk {G : Gm} {goal : Nat} (hg : goal < 2 ^ G.own.length) (m : Nat) : numN (rkL G goal) (m : Int) = lv G goal (m + 1) := by
  refine Nat.eq_of_testBit_eq fun p => ?_
  rw [Bool.eq_iff_iff, num_at, rk_iff hg]
  rcases Nat.lt_or_ge p G.own.length with h | h
  · rw [rkL_getD h]
  · have h1 : rkI G goal p = -1 := by
      refine rk_none hg ?_
      rw [high_bits (lv_lt hg _) h]
      decide
    rw [h1, List.getD_eq_getElem?_getD, List.getElem?_eq_none (by rw [rkL_len]; exact h)]
    simp
theorem rk_accepted {G : Gm} {L : List Int} (h : askE G L = 0) (hg : gatN L < 2 ^ G.own.length) (h16 : G.own.length ≤ 16) : crE G L (rkL G (gatN L)) = 0 := by
  unfold crE
  rw [if_pos h, if_pos, if_pos]
  · refine List.all_eq_true.2 fun p hp => ?_
    rw [List.mem_range] at hp
    unfold crB
    rw [rkL_getD hp]
    by_cases h0 : rkI G (gatN L) p = 0
    · rw [if_pos h0]
      have := (rk_some (k := 0) h0).1
      have e : lv G (gatN L) 1 = gatN L ||| fcN G 0 0 := rfl
      rw [e, fcN_zero (gE_zero (askE_zero h).1), Nat.or_zero] at this
      exact this
    · rw [if_neg h0]
      by_cases h1 : 0 < rkI G (gatN L) p
      · rw [if_pos h1]
        obtain ⟨m, hm⟩ := Int.eq_ofNat_of_zero_le (show 0 ≤ rkI G (gatN L) p - 1 by omega)
        rw [hm, num_rk hg]
        have h2 := rk_some (k := m + 1) (show rkI G (gatN L) p = ((m + 1 : Nat) : Int) by omega)
        have e : lv G (gatN L) (m + 1 + 1) = gatN L ||| fcN G 0 (lv G (gatN L) (m + 1)) := rfl
        rw [e, Nat.testBit_or, fcN_at hp] at h2
        have hgoal : (gatN L).testBit p = false := by
          cases hb : (gatN L).testBit p
          · rfl
          · have : (lv G (gatN L) (m + 1)).testBit p = true := by
              show (gatN L ||| fcN G 0 (lv G (gatN L) m)).testBit p = true
              rw [Nat.testBit_or, hb]; rfl
            rw [h2.2] at this
            cases this
        rw [hgoal, Bool.false_or] at h2
        exact h2.1
      · rw [if_neg h1]
  · rw [areL_iff, rkL_len]
    refine ⟨fun r hr => ?_, rfl⟩
    obtain ⟨p, hp, rfl⟩ := List.mem_map.1 hr
    have h1 := rk_ge (G := G) (goal := gatN L) p
    have h2 := rk_lt (G := G) (goal := gatN L) p
    omega

/-! ### Traps -/
def trB (G : Gm) (goal T : Nat) : Bool := (List.range G.own.length).all fun p => !T.testBit p || (!goal.testBit p && fcB G 1 T p)
def ctE (G : Gm) (L T : List Int) : Int :=
  if askE G L = 0 then (if setL G.own.length T = true then (if trB G (gatN L) (gatN T) = true then 0 else 7) else 1) else askE G L
theorem ctE_zero {G : Gm} {L T : List Int} (h : ctE G L T = 0) : askE G L = 0 ∧ setL G.own.length T = true ∧ trB G (gatN L) (gatN T) = true := by
  unfold ctE at h
  split at h
  · rename_i h1
    refine ⟨h1, ?_⟩
    split at h
    · rename_i h2
      refine ⟨h2, ?_⟩
      split at h
      · assumption
      · cases h
    · cases h
  · contradiction
theorem trB_iff {G : Gm} {goal T : Nat} (hT : T < 2 ^ G.own.length) : trB G goal T = true ↔ ∀ p, T.testBit p = true → goal.testBit p = false ∧ fcB G 1 T p = true := by
  unfold trB
  rw [List.all_eq_true]
  constructor
  · intro h p hp
    have := h p (List.mem_range.2 (bit_in hT hp))
    rw [hp] at this
    simpa using this
  · intro h p hp
    cases hb : T.testBit p
    · rfl
    · have := h p hb
      simp [this]
theorem trap_lv {G : Gm} (H : Ok G) {goal T : Nat} (hT : T < 2 ^ G.own.length) (h : trB G goal T = true) : ∀ k p, T.testBit p = true → (lv G goal k).testBit p = false := by
  rw [trB_iff hT] at h
  intro k
  induction k with
  | zero => intro p _; exact Nat.zero_testBit p
  | succ k ih =>
    intro p hp
    have hn := bit_in hT hp
    obtain ⟨h1, h2⟩ := h p hp
    show (goal ||| fcN G 0 (lv G goal k)).testBit p = false
    rw [Nat.testBit_or, h1, Bool.false_or, fcN_at hn]
    unfold fcB at h2 ⊢
    rcases H.who hn with hw | hw
    · rw [if_pos hw]
      rw [hw, if_neg (by decide)] at h2
      unfold hit
      rw [List.any_eq_false]
      intro d hd
      rw [ih _ (List.all_eq_true.1 h2 d hd)]
      decide
    · rw [hw, if_neg (by decide)]
      rw [hw, if_pos rfl] at h2
      obtain ⟨d, hd, he⟩ := List.any_eq_true.1 h2
      unfold inn
      rw [List.all_eq_false]
      exact ⟨d, hd, by rw [ih _ he]; decide⟩
theorem lv_fix {G : Gm} {goal : Nat} (hg : goal < 2 ^ G.own.length) : goal ||| fcN G 0 (wonN G goal) = wonN G goal := by
  show lv G goal (G.own.length + 1) = _
  exact lv_end hg (by omega)
def freeN (G : Gm) (goal : Nat) : Nat := bitK (fun p => !(wonN G goal).testBit p) G.own.length
theorem free_lt (G : Gm) (goal : Nat) : freeN G goal < 2 ^ G.own.length := bitK_lt _ _
theorem free_at {G : Gm} {goal p : Nat} (hp : p < G.own.length) : (freeN G goal).testBit p = !(wonN G goal).testBit p := bitK_test _ _ _ hp
theorem free_trap {G : Gm} (H : Ok G) {goal : Nat} (hg : goal < 2 ^ G.own.length) : trB G goal (freeN G goal) = true := by
  rw [trB_iff (free_lt G goal)]
  intro p hp
  have hn := bit_in (free_lt G goal) hp
  rw [free_at hn, Bool.not_eq_true'] at hp
  have h1 := lv_fix (G := G) hg
  rw [← h1, Nat.testBit_or, Bool.or_eq_false_iff, fcN_at hn] at hp
  refine ⟨hp.1, ?_⟩
  have h2 := hp.2
  unfold fcB at h2 ⊢
  rcases H.who hn with hw | hw
  · rw [hw, if_neg (by decide)]
    rw [if_pos hw] at h2
    unfold hit at h2
    rw [List.any_eq_false] at h2
    unfold inn
    refine List.all_eq_true.2 fun d hd => ?_
    rw [free_at (H.mem hn hd).2]
    have := h2 d hd
    simpa using this
  · rw [hw, if_pos rfl]
    rw [hw, if_neg (by decide)] at h2
    unfold inn at h2
    rw [List.all_eq_false] at h2
    obtain ⟨d, hd, he⟩ := h2
    unfold hit
    refine List.any_eq_true.2 ⟨d, hd, ?_⟩
    rw [free_at (H.mem hn hd).2]
    simpa using he
/-- How many are won and how many are free. -/
theorem won_free (G : Gm) (goal : Nat) : cntK (wonN G goal).testBit G.own.length + cntK (freeN G goal).testBit G.own.length = G.own.length := by
  have e : cntK (freeN G goal).testBit G.own.length = cntK (fun p => !(wonN G goal).testBit p) G.own.length := cntK_congr fun p hp => free_at hp
  rw [e]
  have key : ∀ (f : Nat → Bool) n, cntK f n + cntK (fun p => !f p) n = n := by
    intro f n
    induction n with
    | zero => rfl
    | succ n ih =>
      rw [cntK, cntK]
      cases f n <;> simp <;> omega
  exact key _ _
end Go.Proofs.Ytldepjpalhmpnaa

/-
  Games: which are some, what is forced in one move, levels and ranks. No program in sight.
-/
import Derived.Test.YtfmhanpibgmgfaaLb1
namespace Go.Proofs.Ytfmhanpibgmgfaa
open Go.RowKit
set_option linter.unusedVariables false

/-- A game: the owners and the rows of moves. -/
structure Gm where
  own : List Int
  mv : List (List Int)
def Gm.row (G : Gm) (p : Nat) : List Int := G.mv.getD p []
def Gm.who (G : Gm) (p : Nat) : Int := G.own.getD p 0
def okRow (G : Gm) (p : Nat) : Bool := (decide (G.who p = 0) || decide (G.who p = 1)) && (!decide ((G.row p).length = 0) && setL G.own.length (G.row p))
def gE (G : Gm) : Int := if G.own.length = 0 ∨ 16 < G.own.length then 3 else if G.mv.length = G.own.length ∧ (List.range G.own.length).all (okRow G) = true then 0 else 1
structure Ok (G : Gm) : Prop where
  pos : 0 < G.own.length
  le : G.own.length ≤ 16
  len : G.mv.length = G.own.length
  rows : ∀ p, p < G.own.length → okRow G p = true
theorem gE_large {G : Gm} (h : G.own.length = 0 ∨ 16 < G.own.length) : gE G = 3 := if_pos h
theorem gE_len {G : Gm} (h : ¬ (G.own.length = 0 ∨ 16 < G.own.length)) (h2 : G.mv.length ≠ G.own.length) : gE G = 1 := by
  unfold gE
  rw [if_neg h, if_neg fun h3 => h2 h3.1]
theorem gE_bad {G : Gm} (h : ¬ (G.own.length = 0 ∨ 16 < G.own.length)) {p : Nat} (hp : p < G.own.length) (hr : okRow G p = false) : gE G = 1 := by
  unfold gE
  rw [if_neg h, if_neg]
  rintro ⟨_, h3⟩
  have := List.all_eq_true.1 h3 p (List.mem_range.2 hp)
  rw [hr] at this
  cases this
theorem gE_ok {G : Gm} (h : ¬ (G.own.length = 0 ∨ 16 < G.own.length)) (h2 : G.mv.length = G.own.length) (h3 : ∀ p, p < G.own.length → okRow G p = true) : gE G = 0 := by
  unfold gE
  rw [if_neg h, if_pos]
  exact ⟨h2, List.all_eq_true.2 fun p hp => h3 p (List.mem_range.1 hp)⟩
theorem gE_zero {G : Gm} (h : gE G = 0) : Ok G := by
  unfold gE at h
  split at h
  · cases h
  · split at h
    · rename_i h1 h2
      exact ⟨by omega, by omega, h2.1, fun p hp => List.all_eq_true.1 h2.2 p (List.mem_range.2 hp)⟩
    · cases h
theorem Ok.who {G : Gm} (H : Ok G) {p : Nat} (hp : p < G.own.length) : G.who p = 0 ∨ G.who p = 1 := by
  have := H.rows p hp
  unfold okRow at this
  simp at this
  exact this.1
theorem Ok.ne {G : Gm} (H : Ok G) {p : Nat} (hp : p < G.own.length) : 0 < (G.row p).length := by
  have := H.rows p hp
  unfold okRow at this
  simp at this
  exact List.length_pos_iff.2 this.2.1
theorem Ok.set {G : Gm} (H : Ok G) {p : Nat} (hp : p < G.own.length) : setL G.own.length (G.row p) = true := by
  have := H.rows p hp
  unfold okRow at this
  simp at this
  exact this.2.2
theorem Ok.mem {G : Gm} (H : Ok G) {p : Nat} (hp : p < G.own.length) {d : Int} (hd : d ∈ G.row p) : 0 ≤ d ∧ d.toNat < G.own.length := by
  have := set_mem (H.set hp) hd
  omega
theorem row_at {G : Gm} {p : Nat} {L : List Int} (h : G.mv[p]? = some L) : G.row p = L := by unfold Gm.row; rw [List.getD_eq_getElem?_getD, h]; rfl
theorem who_at {G : Gm} {p : Nat} {d : Int} (h : G.own[p]? = some d) : G.who p = d := getD_at h

/-! ### What is forced in one move -/
def hit (S : Nat) (L : List Int) : Bool := L.any fun d => S.testBit d.toNat
def inn (S : Nat) (L : List Int) : Bool := L.all fun d => S.testBit d.toNat
def fcB (G : Gm) (b : Int) (S p : Nat) : Bool := if G.who p = b then hit S (G.row p) else inn S (G.row p)
def fcN (G : Gm) (b : Int) (S : Nat) : Nat := bitK (fcB G b S) G.own.length
def sub (S T : Nat) : Prop := ∀ j, S.testBit j = true → T.testBit j = true
theorem sub_refl (S : Nat) : sub S S := fun _ h => h
theorem sub.trans {S T U : Nat} (h : sub S T) (g : sub T U) : sub S U := fun j hj => g j (h j hj)
theorem sub_anti {S T : Nat} (h : sub S T) (g : sub T S) : S = T := Nat.eq_of_testBit_eq fun j => by
  rw [Bool.eq_iff_iff]
  exact ⟨h j, g j⟩
theorem sub_zero (T : Nat) : sub 0 T := fun j h => by simp at h
theorem hit_mono {S T : Nat} (h : sub S T) {L : List Int} (g : hit S L = true) : hit T L = true := by
  obtain ⟨d, hd, e⟩ := List.any_eq_true.1 g
  exact List.any_eq_true.2 ⟨d, hd, h _ e⟩
theorem inn_mono {S T : Nat} (h : sub S T) {L : List Int} (g : inn S L = true) : inn T L = true :=
  List.all_eq_true.2 fun d hd => h _ (List.all_eq_true.1 g d hd)
theorem fcB_mono {G : Gm} {b : Int} {S T p : Nat} (h : sub S T) (g : fcB G b S p = true) : fcB G b T p = true := by
  unfold fcB at g ⊢
  split at g
  · rw [if_pos (by assumption)]; exact hit_mono h g
  · rw [if_neg (by assumption)]; exact inn_mono h g
theorem fcN_lt (G : Gm) (b : Int) (S : Nat) : fcN G b S < 2 ^ G.own.length := bitK_lt _ _
theorem fcN_at {G : Gm} {b : Int} {S p : Nat} (hp : p < G.own.length) : (fcN G b S).testBit p = fcB G b S p := bitK_test _ _ _ hp
theorem bit_in {S n p : Nat} (hS : S < 2 ^ n) (h : S.testBit p = true) : p < n := by
  rcases Nat.lt_or_ge p n with g | g
  · exact g
  · rw [high_bits hS g] at h; cases h
theorem fcN_iff {G : Gm} {b : Int} {S p : Nat} : (fcN G b S).testBit p = true ↔ p < G.own.length ∧ fcB G b S p = true := by
  constructor
  · intro h
    have hp := bit_in (fcN_lt G b S) h
    exact ⟨hp, by rw [← fcN_at hp]; exact h⟩
  · rintro ⟨hp, h⟩
    rw [fcN_at hp]; exact h
theorem fcN_mono {G : Gm} {b : Int} {S T : Nat} (h : sub S T) : sub (fcN G b S) (fcN G b T) := fun j hj => by
  rw [fcN_iff] at hj ⊢
  exact ⟨hj.1, fcB_mono h hj.2⟩
theorem fcN_zero {G : Gm} (H : Ok G) (b : Int) : fcN G b 0 = 0 := by
  unfold fcN
  refine bitK_zero fun p hp => ?_
  unfold fcB hit inn
  have hne := H.ne hp
  split
  · rw [List.any_eq_false]; intro d _; simp
  · rw [List.all_eq_false]
    match hL : G.row p, hne with
    | d :: r, _ => exact ⟨d, List.mem_cons_self, by simp⟩

/-! ### Levels -/
def lv (G : Gm) (goal : Nat) : Nat → Nat
  | 0 => 0
  | k + 1 => goal ||| fcN G 0 (lv G goal k)
section
variable {G : Gm} {goal : Nat}
theorem lv_lt (hg : goal < 2 ^ G.own.length) : ∀ k, lv G goal k < 2 ^ G.own.length
  | 0 => Nat.two_pow_pos _
  | k + 1 => Nat.or_lt_two_pow hg (fcN_lt _ _ _)
theorem lv_one (H : Ok G) : lv G goal 1 = goal := by
  show goal ||| fcN G 0 0 = goal
  rw [fcN_zero H, Nat.or_zero]
theorem or_sub {a b c d : Nat} (h : sub a c) (g : sub b d) : sub (a ||| b) (c ||| d) := fun j hj => by
  rw [Nat.testBit_or, Bool.or_eq_true] at hj ⊢
  exact hj.imp (h j) (g j)
theorem lv_up : ∀ k, sub (lv G goal k) (lv G goal (k + 1))
  | 0 => sub_zero _
  | k + 1 => or_sub (sub_refl _) (fcN_mono (lv_up k))
theorem lv_mono {i j : Nat} (h : i ≤ j) : sub (lv G goal i) (lv G goal j) := by
  induction j with
  | zero => obtain rfl : i = 0 := by omega
            exact sub_refl _
  | succ j ih =>
    rcases Nat.lt_or_ge j i with h1 | h1
    · obtain rfl : i = j + 1 := by omega
      exact sub_refl _
    · exact (ih h1).trans (lv_up j)
theorem cntK_mono {f g : Nat → Bool} : ∀ {n : Nat}, (∀ j, j < n → f j = true → g j = true) → cntK f n ≤ cntK g n
  | 0, _ => Nat.le_refl _
  | n + 1, h => by
    have ih := cntK_mono (n := n) fun j hj => h j (by omega)
    have hn := h n (by omega)
    rw [cntK, cntK]
    cases hf : f n
    · simp; omega
    · rw [hn hf]; simp; omega
theorem cntK_less {f g : Nat → Bool} : ∀ {n : Nat}, (∀ j, j < n → f j = true → g j = true) → (∃ j, j < n ∧ f j = false ∧ g j = true) → cntK f n < cntK g n
  | 0, _, ⟨j, hj, _⟩ => by omega
  | n + 1, h, ⟨j, hj, h1, h2⟩ => by
    have hn := h n (by omega)
    rw [cntK, cntK]
    by_cases hjn : j = n
    · subst hjn
      have ih := cntK_mono (n := j) fun i hi => h i (by omega)
      rw [h1, h2]; simp; omega
    · have ih := cntK_less (n := n) (fun i hi => h i (by omega)) ⟨j, by omega, h1, h2⟩
      cases hf : f n
      · simp; omega
      · rw [hn hf]; simp; omega
theorem sub_less {S T n : Nat} (hT : T < 2 ^ n) (h : sub S T) (hne : S ≠ T) : cntK S.testBit n < cntK T.testBit n := by
  refine cntK_less (fun j _ hj => h j hj) ?_
  apply Classical.byContradiction
  intro hno
  apply hne
  refine sub_anti h fun j hj => ?_
  cases hf : S.testBit j
  · exact absurd ⟨j, bit_in hT hj, hf, hj⟩ hno
  · rfl
theorem lv_cnt (hg : goal < 2 ^ G.own.length) : ∀ k, (∀ j, j < k → lv G goal j ≠ lv G goal (j + 1)) → k ≤ cntK (lv G goal k).testBit G.own.length
  | 0, _ => Nat.zero_le _
  | k + 1, h => by
    have ih := lv_cnt hg k fun j hj => h j (by omega)
    have := sub_less (lv_lt hg (k + 1)) (lv_up (G := G) (goal := goal) k) (h k (by omega))
    omega
theorem lv_same {k : Nat} (h : lv G goal k = lv G goal (k + 1)) : ∀ j, lv G goal (k + j) = lv G goal k
  | 0 => rfl
  | j + 1 => by
    have ih := lv_same h j
    show goal ||| fcN G 0 (lv G goal (k + j)) = _
    rw [ih]
    exact h.symm
theorem lv_end (hg : goal < 2 ^ G.own.length) {k : Nat} (hk : G.own.length ≤ k) : lv G goal k = lv G goal G.own.length := by
  have hex : ∃ i, i ≤ G.own.length ∧ lv G goal i = lv G goal (i + 1) := by
    apply Classical.byContradiction
    intro hno
    have h1 := lv_cnt hg (G.own.length + 1) fun j hj h => hno ⟨j, by omega, h⟩
    have h2 := cntK_le (lv G goal (G.own.length + 1)).testBit G.own.length
    omega
  obtain ⟨i, hi, h⟩ := hex
  have e1 := lv_same h (k - i)
  have e2 := lv_same h (G.own.length - i)
  rw [show i + (k - i) = k by omega] at e1
  rw [show i + (G.own.length - i) = G.own.length by omega] at e2
  rw [e1, e2]
theorem lv_stop {k : Nat} (hg : goal < 2 ^ G.own.length) (h : lv G goal k = lv G goal (k + 1)) : lv G goal k = lv G goal G.own.length := by
  rcases Nat.lt_or_ge k G.own.length with h1 | h1
  · have := lv_same h (G.own.length - k)
    rw [show k + (G.own.length - k) = G.own.length by omega] at this
    exact this.symm
  · exact lv_end hg h1
end

/-! ### Ranks -/
def rkI (G : Gm) (goal p : Nat) : Int := match (List.range G.own.length).find? fun k => (lv G goal (k + 1)).testBit p with
  | some k => (k : Int)
  | none => -1
section
variable {G : Gm} {goal : Nat}
theorem rk_ge (p : Nat) : -1 ≤ rkI G goal p := by
  unfold rkI
  split <;> omega
theorem rk_lt (p : Nat) : rkI G goal p < (G.own.length : Int) := by
  unfold rkI
  split
  · rename_i k h
    have := (List.find?_range_eq_some.1 h).2.1
    rw [List.mem_range] at this
    omega
  · omega
theorem rk_some {p k : Nat} (h : rkI G goal p = (k : Int)) : (lv G goal (k + 1)).testBit p = true ∧ (lv G goal k).testBit p = false := by
  unfold rkI at h
  split at h
  · rename_i m hm
    obtain rfl : m = k := by omega
    have h1 := List.find?_range_eq_some.1 hm
    refine ⟨h1.1, ?_⟩
    cases m with
    | zero => exact Nat.zero_testBit p
    | succ m =>
      have := h1.2.2 m (by omega)
      simpa using this
  · omega
/-- What belongs to a level has at most this rank. -/
theorem rk_iff (hg : goal < 2 ^ G.own.length) (p k : Nat) : (lv G goal (k + 1)).testBit p = true ↔ 0 ≤ rkI G goal p ∧ rkI G goal p ≤ (k : Int) := by
  constructor
  · intro h
    unfold rkI
    split
    · rename_i m hm
      have h1 := List.find?_range_eq_some.1 hm
      refine ⟨by omega, ?_⟩
      rcases Nat.lt_or_ge k m with h2 | h2
      · have := h1.2.2 k h2
        rw [h] at this
        simp at this
      · omega
    · rename_i hm
      exfalso
      have h1 := List.find?_eq_none.1 hm
      rcases Nat.lt_or_ge k G.own.length with h2 | h2
      · have := h1 k (by simpa using h2)
        rw [h] at this
        simp at this
      · rw [lv_end hg (by omega)] at h
        rcases Nat.eq_zero_or_pos G.own.length with h3 | h3
        · rw [h3] at h
          simp [lv] at h
        · have := h1 (G.own.length - 1) (by simp; omega)
          rw [show G.own.length - 1 + 1 = G.own.length by omega, h] at this
          simp at this
  · rintro ⟨h0, h1⟩
    obtain ⟨m, hm⟩ := Int.eq_ofNat_of_zero_le h0
    have := (rk_some hm).1
    exact lv_mono (by omega) p this
theorem rk_won (hg : goal < 2 ^ G.own.length) (p : Nat) : (lv G goal G.own.length).testBit p = true ↔ 0 ≤ rkI G goal p := by
  have h := rk_iff hg p G.own.length
  rw [lv_end hg (by omega)] at h
  rw [h]
  have := rk_lt (G := G) (goal := goal) p
  omega
theorem rk_none (hg : goal < 2 ^ G.own.length) {p : Nat} (h : ¬ (lv G goal G.own.length).testBit p = true) : rkI G goal p = -1 := by
  rw [rk_won hg] at h
  have := rk_ge (G := G) (goal := goal) p
  omega
end
def rkL (G : Gm) (goal : Nat) : List Int := (List.range G.own.length).map (rkI G goal)
theorem rkL_len (G : Gm) (goal : Nat) : (rkL G goal).length = G.own.length := by simp [rkL]
theorem rkL_at {G : Gm} {goal p : Nat} (hp : p < G.own.length) : (rkL G goal)[p]? = some (rkI G goal p) := by simp [rkL, hp]
def wonN (G : Gm) (goal : Nat) : Nat := lv G goal G.own.length
end Go.Proofs.Ytfmhanpibgmgfaa

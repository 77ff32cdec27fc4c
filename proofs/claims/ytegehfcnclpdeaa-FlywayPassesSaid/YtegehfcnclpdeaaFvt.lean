/-
  The equation of a place: what its numbers are. Nothing of the program but the passages of a row.
-/
import Derived.Test.YtegehfcnclpdeaaFwu
namespace Go.Proofs.Ytegehfcnclpdeaa
set_option linter.unusedVariables false

/-- A passage is entered: w more at i, w less at j. -/
def evS (i : Nat) (F : Nat → Int) (x : Nat × Int) : Nat → Int := upd (upd F i (F i + x.2)) x.1 (upd F i (F i + x.2) x.1 - x.2)
def evF (i : Nat) (ps : List (Nat × Int)) : Nat → Int := ps.foldl (evS i) fun _ => 0
theorem evF_snoc (i : Nat) (ps : List (Nat × Int)) (x : Nat × Int) : evF i (ps ++ [x]) = evS i (evF i ps) x := by
  unfold evF
  rw [List.foldl_append]
  rfl
def pwL (ps : List (Nat × Int)) (p : Nat) : Int := lsum ((ps.filter fun x => decide (x.1 = p)).map (·.2))
theorem pwL_snoc (ps : List (Nat × Int)) (x : Nat × Int) (p : Nat) : pwL (ps ++ [x]) p = pwL ps p + if x.1 = p then x.2 else 0 := by
  unfold pwL
  rw [List.filter_append, List.map_append]
  by_cases h : x.1 = p
  · rw [if_pos h]
    simp [h, lsum_snoc]
  · rw [if_neg h]
    simp [h]
theorem snoc_ind {α : Type} {P : List α → Prop} (h0 : P []) (hs : ∀ l a, P l → P (l ++ [a])) (l : List α) : P l := by
  have h : ∀ r : List α, P r.reverse := fun r => by
    induction r with
    | nil => exact h0
    | cons a r ih => rw [List.reverse_cons]; exact hs _ _ ih
  have := h l.reverse
  rwa [List.reverse_reverse] at this
theorem evF_eq (i : Nat) (ps : List (Nat × Int)) : ∀ p, evF i ps p = (if p = i then lsum (ps.map (·.2)) else 0) - pwL ps p := by
  induction ps using snoc_ind with
  | h0 => intro p; show (0 : Int) = (if p = i then 0 else 0) - 0; split <;> rfl
  | hs l a ih =>
    intro p
    rw [evF_snoc, pwL_snoc, List.map_append, List.map_cons, List.map_nil, lsum_snoc]
    unfold evS
    by_cases h1 : p = a.1
    · subst h1
      rw [upd_at, if_pos rfl]
      by_cases h2 : a.1 = i
      · rw [if_pos h2, h2, upd_at, ih i, if_pos rfl]
        omega
      · rw [if_neg h2, upd_off h2, ih a.1, if_neg h2]
        omega
    · rw [upd_off h1, show (if a.1 = p then a.2 else 0) = (0 : Int) from if_neg (fun e => h1 e.symm)]
      by_cases h2 : p = i
      · subst h2
        rw [upd_at, ih p, if_pos rfl, if_pos rfl]
        omega
      · rw [upd_off h2, ih p, if_neg h2, if_neg h2]
        omega
theorem pwL_pasU {l : List Int} (h : ∀ d ∈ l, 0 ≤ d) (p : Nat) : ∀ k, k ≤ l.length → pwL (pasU l k) p = if p < k then l.getD p 0 else 0
  | 0, _ => by rw [if_neg (by omega)]; rfl
  | k + 1, hk => by
    have ih := pwL_pasU h p k (by omega)
    have hd : 0 ≤ l.getD k 0 := by
      rw [List.getD_eq_getElem?_getD, List.getElem?_eq_getElem (by omega)]
      exact h _ (List.getElem_mem (by omega))
    show pwL (if 0 < l.getD k 0 then pasU l k ++ [(k, l.getD k 0)] else pasU l k) p = _
    split
    · rw [pwL_snoc, ih]
      show _ + (if k = p then l.getD k 0 else 0) = _
      by_cases e : k = p
      · subst e
        rw [if_neg (by omega), if_pos rfl, if_pos (by omega)]
        omega
      · rw [if_neg e]
        by_cases h2 : p < k
        · rw [if_pos h2, if_pos (by omega)]; omega
        · rw [if_neg h2, if_neg (by omega)]; rfl
    · rw [ih]
      by_cases e : p = k
      · subst e
        rw [if_neg (by omega), if_pos (by omega)]
        omega
      · by_cases h2 : p < k
        · rw [if_pos h2, if_pos (by omega)]
        · rw [if_neg h2, if_neg (by omega)]
theorem getD_out {l : List Int} {p : Nat} (h : l.length ≤ p) : l.getD p 0 = 0 := by
  rw [List.getD_eq_getElem?_getD, List.getElem?_eq_none h]
  rfl
/-- All passages of a row entered. -/
theorem evF_all {l : List Int} (h : ∀ d ∈ l, 0 ≤ d) (i p : Nat) : evF i (pasU l l.length) p = (if p = i then lsum l else 0) - l.getD p 0 := by
  rw [evF_eq, pwL_pasU h p l.length (Nat.le_refl _), pasU_sum h l.length (Nat.le_refl _), List.take_length]
  congr 1
  split
  · rfl
  · exact (getD_out (by omega)).symm
theorem evS_le {i : Nat} {F : Nat → Int} {x : Nat × Int} {b : Int} (h : ∀ p, -b ≤ F p ∧ F p ≤ b) (hx : 0 ≤ x.2 ∧ x.2 ≤ 3) : ∀ p, -(b + 3) ≤ evS i F x p ∧ evS i F x p ≤ b + 3 := by
  intro p
  have h1 := h i
  have h2 := h p
  unfold evS
  by_cases e1 : p = x.1
  · subst e1
    rw [upd_at]
    by_cases e2 : x.1 = i
    · rw [e2, upd_at]; omega
    · rw [upd_off e2]; omega
  · rw [upd_off e1]
    by_cases e2 : p = i
    · subst e2
      rw [upd_at]; omega
    · rw [upd_off e2]; omega
theorem evF_le (i : Nat) {ps : List (Nat × Int)} (h : ∀ x ∈ ps, 0 ≤ x.2 ∧ x.2 ≤ 3) : ∀ p, -(3 * (ps.length : Int)) ≤ evF i ps p ∧ evF i ps p ≤ 3 * (ps.length : Int) := by
  induction ps using snoc_ind with
  | h0 => intro p; exact ⟨Int.le_refl 0, Int.le_refl 0⟩
  | hs l a ih =>
    intro p
    have h1 := evS_le (i := i) (ih fun x hx => h x (List.mem_append.2 (.inl hx))) (h a (List.mem_append.2 (.inr (by simp)))) p
    rw [evF_snoc, List.length_append]
    simp only [List.length_cons, List.length_nil]
    omega
/-- The equation of the place i: b where it counts at i. -/
def vF (L : List (List Int)) (n i : Nat) (b : Int) (p : Nat) : Int :=
  if (endAt L i || !sureB L n i) = true then (if p = n then b else if p = i then 1 else 0) else if p = n then lsum (L.getD i []) * b else (if p = i then lsum (L.getD i []) else 0) - wt L i p
end Go.Proofs.Ytegehfcnclpdeaa

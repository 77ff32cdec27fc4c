/-
  Proofs of growth in plain numbers; common pages. No program in sight. No condition.
-/
import Derived.Test.YtoenecgjiejljaaDoorBt1
namespace Go.Proofs.YtoenecgjiejljaaDoor
set_option linter.unusedVariables false

/-- The proof of growth. -/
def grL (l : List Int) (m : Nat) (old : Bool) : List Int :=
  if h : l.length < 2 ∨ m = l.length then (if old = true then [] else [rt l])
  else if m ≤ spN l.length then grL (l.take (spN l.length)) m old ++ [rt (l.drop (spN l.length))] else grL (l.drop (spN l.length)) (m - spN l.length) false ++ [rt (l.take (spN l.length))]
termination_by l.length
decreasing_by all_goals (simp only [List.length_take, List.length_drop]; have := sp_lt (n := l.length) (by omega); omega)
/-- How many sums it has. -/
def gsN (m n : Nat) (old : Bool) : Nat :=
  if h : n < 2 ∨ m = n then (if old = true then 0 else 1) else if m ≤ spN n then gsN m (spN n) old + 1 else gsN (m - spN n) (n - spN n) false + 1
termination_by n
decreasing_by all_goals (have := sp_lt (n := n) (by omega); omega)
/-- The two roots that follow from it. -/
def unI (base : Int) (m n : Nat) (old : Bool) (p : List Int) : Int × Int :=
  if h : n < 2 ∨ m = n then (if old = true then (base, base) else (gI p (p.length - 1), gI p (p.length - 1)))
  else if m ≤ spN n then ((unI base m (spN n) old (p.take (p.length - 1))).1, jn (unI base m (spN n) old (p.take (p.length - 1))).2 (gI p (p.length - 1)))
  else (jn (gI p (p.length - 1)) (unI base (m - spN n) (n - spN n) false (p.take (p.length - 1))).1, jn (gI p (p.length - 1)) (unI base (m - spN n) (n - spN n) false (p.take (p.length - 1))).2)
termination_by n
decreasing_by all_goals (have := sp_lt (n := n) (by omega); omega)
section
variable {l p : List Int} {m n : Nat} {old : Bool} {base : Int}
theorem gr_end (h : l.length < 2 ∨ m = l.length) : grL l m old = if old = true then [] else [rt l] := by rw [grL, dif_pos h]
theorem gr_left (h : 2 ≤ l.length) (hm : m ≤ spN l.length) : grL l m old = grL (l.take (spN l.length)) m old ++ [rt (l.drop (spN l.length))] := by
  have := sp_lt h
  rw [grL, dif_neg (by omega), if_pos hm]
theorem gr_right (h : 2 ≤ l.length) (hm : spN l.length < m) (hn : m ≠ l.length) : grL l m old = grL (l.drop (spN l.length)) (m - spN l.length) false ++ [rt (l.take (spN l.length))] := by rw [grL, dif_neg (by omega), if_neg (by omega)]
theorem gs_end (h : n < 2 ∨ m = n) : gsN m n old = if old = true then 0 else 1 := by rw [gsN, dif_pos h]
theorem gs_left (h : 2 ≤ n) (hm : m ≤ spN n) : gsN m n old = gsN m (spN n) old + 1 := by
  have := sp_lt h
  rw [gsN, dif_neg (by omega), if_pos hm]
theorem gs_right (h : 2 ≤ n) (hm : spN n < m) (hn : m ≠ n) : gsN m n old = gsN (m - spN n) (n - spN n) false + 1 := by rw [gsN, dif_neg (by omega), if_neg (by omega)]
theorem un_end (h : n < 2 ∨ m = n) : unI base m n old p = if old = true then (base, base) else (gI p (p.length - 1), gI p (p.length - 1)) := by rw [unI, dif_pos h]
theorem un_left (h : 2 ≤ n) (hm : m ≤ spN n) : unI base m n old p = ((unI base m (spN n) old (p.take (p.length - 1))).1, jn (unI base m (spN n) old (p.take (p.length - 1))).2 (gI p (p.length - 1))) := by
  have := sp_lt h
  rw [unI, dif_neg (by omega), if_pos hm]
theorem un_right (h : 2 ≤ n) (hm : spN n < m) (hn : m ≠ n) : unI base m n old p = (jn (gI p (p.length - 1)) (unI base (m - spN n) (n - spN n) false (p.take (p.length - 1))).1, jn (gI p (p.length - 1)) (unI base (m - spN n) (n - spN n) false (p.take (p.length - 1))).2) := by rw [unI, dif_neg (by omega), if_neg (by omega)]
end
theorem gr_len : ∀ (n : Nat) (l : List Int) (m : Nat) (old : Bool), l.length = n → (grL l m old).length = gsN m n old := by
  intro n
  induction n using Nat.strongRecOn with
  | _ n ih =>
    intro l m old hl
    subst hl
    by_cases h : l.length < 2 ∨ m = l.length
    · rw [gr_end h, gs_end h]
      cases old <;> rfl
    · have hs := sp_lt (n := l.length) (by omega)
      by_cases hi : m ≤ spN l.length
      · rw [gr_left (by omega) hi, gs_left (by omega) hi, List.length_append, ih _ hs.2 _ m old (take_len (by omega))]
        rfl
      · rw [gr_right (by omega) (by omega) (by omega), gs_right (by omega) (by omega) (by omega), List.length_append, ih _ (by omega) _ _ _ (drop_len l)]
        rfl
theorem gs_le : ∀ (n m : Nat) (old : Bool), gsN m n old ≤ n + 1 := by
  intro n
  induction n using Nat.strongRecOn with
  | _ n ih =>
    intro m old
    by_cases h : n < 2 ∨ m = n
    · rw [gs_end h]
      cases old <;> simp
    · have hs := sp_lt (n := n) (by omega)
      by_cases hi : m ≤ spN n
      · have := ih _ hs.2 m old
        rw [gs_left (by omega) hi]; omega
      · have := ih (n - spN n) (by omega) (m - spN n) false
        rw [gs_right (by omega) (by omega) (by omega)]; omega
theorem gr_sm : ∀ (n : Nat) (l : List Int) (m : Nat) (old : Bool), l.length = n → AllSm l → AllSm (grL l m old) := by
  intro n
  induction n using Nat.strongRecOn with
  | _ n ih =>
    intro l m old hl hs
    subst hl
    by_cases h : l.length < 2 ∨ m = l.length
    · rw [gr_end h]
      cases old
      · intro x hx
        rw [show x = rt l by simpa using hx]
        exact rt_sm hs
      · intro x hx; cases hx
    · have hp := sp_lt (n := l.length) (by omega)
      by_cases hi : m ≤ spN l.length
      · rw [gr_left (by omega) hi]
        intro x hx
        rcases List.mem_append.1 hx with hx | hx
        · exact ih _ hp.2 _ m old (take_len (by omega)) (hs.take _) x hx
        · rw [List.mem_singleton.1 hx]; exact rt_sm (hs.drop _)
      · rw [gr_right (by omega) (by omega) (by omega)]
        intro x hx
        rcases List.mem_append.1 hx with hx | hx
        · exact ih _ (by omega) _ _ _ (drop_len l) (hs.drop _) x hx
        · rw [List.mem_singleton.1 hx]; exact rt_sm (hs.take _)
theorem un_sm : ∀ (n m : Nat) (old : Bool) (p : List Int) (base : Int), AllSm p → Sm1 base → Sm1 (unI base m n old p).1 ∧ Sm1 (unI base m n old p).2 := by
  intro n
  induction n using Nat.strongRecOn with
  | _ n ih =>
    intro m old p base hp hb
    by_cases h : n < 2 ∨ m = n
    · rw [un_end h]
      cases old
      · exact ⟨gI_sm hp _, gI_sm hp _⟩
      · exact ⟨hb, hb⟩
    · have hs := sp_lt (n := n) (by omega)
      by_cases hi : m ≤ spN n
      · rw [un_left (by omega) hi]
        exact ⟨(ih _ hs.2 m old _ base (hp.take _) hb).1, jn_sm _ _⟩
      · rw [un_right (by omega) (by omega) (by omega)]
        exact ⟨jn_sm _ _, jn_sm _ _⟩
/-- The proof of growth proves both roots. -/
theorem un_grow : ∀ (n : Nat) (l : List Int) (m : Nat) (old : Bool) (base : Int), l.length = n → 1 ≤ m → m ≤ n → (old = true → base = rt (l.take m)) → unI base m n old (grL l m old) = (rt (l.take m), rt l) := by
  intro n
  induction n using Nat.strongRecOn with
  | _ n ih =>
    intro l m old base hl h1 hmn hb
    subst hl
    by_cases h : l.length < 2 ∨ m = l.length
    · have hm : m = l.length := by omega
      subst hm
      rw [un_end h, gr_end h]
      cases old
      · simp [gI]
      · have hb' := hb rfl
        rw [List.take_length] at hb' ⊢
        simp [hb']
    · have hs := sp_lt (n := l.length) (by omega)
      by_cases hi : m ≤ spN l.length
      · rw [gr_left (by omega) hi, un_left (by omega) hi, snoc_last, snoc_take]
        have ht : (l.take (spN l.length)).take m = l.take m := by rw [List.take_take, Nat.min_eq_left hi]
        have := ih _ hs.2 (l.take (spN l.length)) m old base (take_len (by omega)) h1 hi (by rw [ht]; exact hb)
        rw [this, ht, rt_two (l := l) (by omega)]
      · have := ih (l.length - spN l.length) (by omega) (l.drop (spN l.length)) (m - spN l.length) false base (drop_len l) (by omega) (by omega) (fun h => by cases h)
        rw [gr_right (by omega) (by omega) (by omega), un_right (by omega) (by omega) (by omega), snoc_last, snoc_take, this, rt_two (l := l) (by omega)]
        have hlm : (l.take m).length = m := by rw [List.length_take]; omega
        have hsm : spN m = spN l.length := sp_same (by omega) hmn
        rw [rt_two (l := l.take m) (by omega), hlm, hsm, List.take_take, Nat.min_eq_left (by omega), List.drop_take]
/-- What the reference finds when it takes the sums from the front. -/
def uoK (m n : Nat) (old : Bool) (p : List Int) : Bool := decide (gsN m n old ≤ p.length)
def uoF (base : Int) (m n : Nat) (old : Bool) (p : List Int) : Int × Int := if gsN m n old ≤ p.length then unI base m n old (p.take (gsN m n old)) else (0, 0)
def uoU (m n : Nat) (old : Bool) (p : List Int) : Nat := if gsN m n old ≤ p.length then gsN m n old else 0
theorem uo_all {base : Int} {m n : Nat} {old : Bool} {p : List Int} (h : p.length = gsN m n old) : uoK m n old p = true ∧ uoF base m n old p = unI base m n old p ∧ uoU m n old p = p.length := by
  unfold uoK uoF uoU
  rw [h, decide_eq_true (Nat.le_refl _), if_pos (Nat.le_refl _), if_pos (Nat.le_refl _), ← h, List.take_length]
  exact ⟨rfl, rfl, rfl⟩
theorem uo_not {m n : Nat} {old : Bool} {p : List Int} (h : p.length ≠ gsN m n old) : uoK m n old p = false ∨ (uoK m n old p = true ∧ uoU m n old p ≠ p.length) := by
  by_cases hl : gsN m n old ≤ p.length
  · refine .inr ⟨decide_eq_true hl, ?_⟩
    unfold uoU
    rw [if_pos hl]
    exact fun e => h e.symm
  · exact .inl (decide_eq_false hl)
theorem uo_step {base : Int} {m n m' n' : Nat} {old old' : Bool} {p : List Int} (hg : gsN m n old = gsN m' n' old' + 1) :
    (uoK m' n' old' p = true ∧ uoU m' n' old' p < p.length ∧ uoK m n old p = true ∧ uoU m n old p = uoU m' n' old' p + 1 ∧ uoF base m' n' old' p = unI base m' n' old' ((p.take (gsN m n old)).take ((p.take (gsN m n old)).length - 1)) ∧ gI (p.take (gsN m n old)) ((p.take (gsN m n old)).length - 1) = gI p (uoU m' n' old' p) ∧ uoF base m n old p = unI base m n old (p.take (gsN m n old))) ∨
    (uoK m' n' old' p = true ∧ uoU m' n' old' p = p.length ∧ uoK m n old p = false ∧ uoU m n old p = 0 ∧ uoF base m n old p = (0, 0)) ∨
    (uoK m' n' old' p = false ∧ uoK m n old p = false ∧ uoU m n old p = 0 ∧ uoF base m n old p = (0, 0)) := by
  unfold uoK uoF uoU
  rcases Nat.lt_trichotomy (gsN m' n' old') p.length with h | h | h
  · refine .inl ?_
    rw [if_pos (by omega), if_pos (by omega), if_pos (by omega), if_pos (by omega), decide_eq_true (by omega), decide_eq_true (by omega)]
    have hl : (p.take (gsN m n old)).length - 1 = gsN m' n' old' := by rw [List.length_take]; omega
    rw [hl, List.take_take, Nat.min_eq_left (by omega)]
    exact ⟨rfl, h, rfl, hg, rfl, gI_take (by omega), rfl⟩
  · refine .inr (.inl ?_)
    rw [if_pos (by omega), if_neg (by omega), if_neg (by omega), decide_eq_true (by omega), decide_eq_false (by omega)]
    exact ⟨rfl, h, rfl, rfl, rfl⟩
  · refine .inr (.inr ?_)
    rw [if_neg (by omega), if_neg (by omega), decide_eq_false (by omega), decide_eq_false (by omega)]
    exact ⟨rfl, rfl, rfl, rfl⟩

/-- How many pages two lists have in common at their beginnings. -/
def cmN : List ByteArray → List ByteArray → Nat
  | s :: a, t :: b => if s = t then cmN a b + 1 else 0
  | _, _ => 0
theorem cm_take : ∀ (a b : List ByteArray), a.take (cmN a b) = b.take (cmN a b)
  | [], _ => by simp [cmN]
  | s :: a, [] => by simp [cmN]
  | s :: a, t :: b => by
    unfold cmN
    by_cases h : s = t
    · rw [if_pos h, List.take_succ_cons, List.take_succ_cons, h, cm_take a b]
    · rw [if_neg h]; rfl
theorem cm_le : ∀ (a b : List ByteArray), cmN a b ≤ a.length ∧ cmN a b ≤ b.length
  | [], _ => by simp [cmN]
  | s :: a, [] => by simp [cmN]
  | s :: a, t :: b => by
    have := cm_le a b
    unfold cmN
    split
    · simp only [List.length_cons]; omega
    · simp
/-- A number up to which they agree, and not further. -/
theorem cm_of : ∀ (a b : List ByteArray) (k : Nat), (∀ j, j < k → a[j]? = b[j]? ∧ j < a.length) → (a.length ≤ k ∨ b.length ≤ k ∨ a[k]? ≠ b[k]?) → cmN a b = k
  | [], b, k, h, _ => by
    rcases Nat.eq_zero_or_pos k with h0 | h0
    · rw [h0]; simp [cmN]
    · have := (h 0 h0).2
      simp at this
  | s :: a, [], k, h, _ => by
    rcases Nat.eq_zero_or_pos k with h0 | h0
    · rw [h0]; simp [cmN]
    · have := (h 0 h0).1
      simp at this
  | s :: a, t :: b, k, h, h2 => by
    unfold cmN
    rcases Nat.eq_zero_or_pos k with h0 | h0
    · subst h0
      rw [if_neg]
      intro e
      rcases h2 with h2 | h2 | h2
      · simp at h2
      · simp at h2
      · simp [e] at h2
    · obtain ⟨q, rfl⟩ : ∃ q, k = q + 1 := ⟨k - 1, by omega⟩
      have e : s = t := by simpa using (h 0 h0).1
      rw [if_pos e, cm_of a b q (fun j hj => by have := h (j + 1) (by omega); simpa using this) (by simpa using h2)]
end Go.Proofs.YtoenecgjiejljaaDoor

/-
  Codes: which are safe (the ends, the prefixes, the code turned round). No program in sight. No condition.
-/
namespace Go.Proofs.YtoenecgjiejljaaDoor
set_option linter.unusedVariables false
section
variable {α : Type}
/-- A message, by its signals. -/
def Msg (C : List (List α)) (a : List (List α)) : Prop := ∀ x ∈ a, x ∈ C
/-- No two different messages sound alike. -/
def Safe (C : List (List α)) : Prop := ∀ a b, Msg C a → Msg C b → a.flatten = b.flatten → a = b
/-- What can be left over. -/
inductive End (C : List (List α)) : List α → Prop
  | base {x y t : List α} : x ∈ C → y ∈ C → x ≠ y → y = x ++ t → End C t
  | left {x u t : List α} : x ∈ C → End C u → u ≠ [] → u = x ++ t → End C t
  | right {x u t : List α} : x ∈ C → End C u → u ≠ [] → x = u ++ t → End C t
theorem Msg.app {C a b : List (List α)} (ha : Msg C a) (hb : Msg C b) : Msg C (a ++ b) := by
  intro x hx
  rcases List.mem_append.1 hx with h | h
  · exact ha x h
  · exact hb x h
theorem Msg.one {C : List (List α)} {x : List α} (h : x ∈ C) : Msg C [x] := by
  intro y hy
  rw [List.mem_singleton] at hy
  subst hy
  exact h
theorem Msg.cons {C a : List (List α)} {x : List α} (h : Msg C (x :: a)) : x ∈ C ∧ Msg C a := ⟨h x (List.mem_cons_self ..), fun y hy => h y (List.mem_cons_of_mem _ hy)⟩
/-- An end is what is left over of two messages that begin with different signals. -/
theorem End.two {C : List (List α)} {t : List α} (h : End C t) : ∃ (x y : List α) (a b : List (List α)), x ≠ y ∧ Msg C (x :: a) ∧ Msg C (y :: b) ∧ (x :: a).flatten ++ t = (y :: b).flatten := by
  induction h with
  | @base x y t hx hy hne he =>
    refine ⟨x, y, [], [], hne, Msg.one hx, Msg.one hy, ?_⟩
    simp [he]
  | @left z u t hz _ _ he ih =>
    obtain ⟨x, y, a, b, hne, ha, hb, hf⟩ := ih
    refine ⟨x, y, a ++ [z], b, hne, Msg.app (a := x :: a) ha (Msg.one hz), hb, ?_⟩
    rw [← hf, he]
    simp
  | @right z u t hz _ _ he ih =>
    obtain ⟨x, y, a, b, hne, ha, hb, hf⟩ := ih
    refine ⟨y, x, b, a ++ [z], fun e => hne e.symm, hb, Msg.app (a := x :: a) ha (Msg.one hz), ?_⟩
    rw [← hf, he]
    simp
/-- A code of which a signal is an end is not safe. -/
theorem not_safe {C : List (List α)} {t : List α} (h : End C t) (ht : t ∈ C) : ¬ Safe C := by
  intro hs
  obtain ⟨x, y, a, b, hne, ha, hb, hf⟩ := h.two
  have h2 := hs (x :: (a ++ [t])) (y :: b) (Msg.app (a := x :: a) ha (Msg.one ht)) hb (by rw [← hf]; simp)
  injection h2 with h3
  exact hne h3
theorem end_found {C : List (List α)} : ∀ (n : Nat) (t : List α) (a b : List (List α)), a.length + b.length ≤ n → End C t → t ≠ [] → Msg C a → Msg C b → a.flatten = t ++ b.flatten → ∃ x, x ∈ C ∧ End C x := by
  intro n
  induction n with
  | zero =>
    intro t a b hn _ ht _ _ hf
    have : a = [] := List.eq_nil_of_length_eq_zero (by omega)
    subst this
    exact absurd (List.append_eq_nil_iff.1 hf.symm).1 ht
  | succ n ih =>
    intro t a b hn he ht ha hb hf
    cases a with
    | nil => exact absurd (List.append_eq_nil_iff.1 hf.symm).1 ht
    | cons z a =>
      obtain ⟨hz, ha'⟩ := ha.cons
      rw [List.flatten_cons] at hf
      simp only [List.length_cons] at hn
      rcases List.append_eq_append_iff.1 hf with ⟨s, h1, h2⟩ | ⟨s, h1, h2⟩
      · -- t = z ++ s, a.flatten = s ++ b.flatten
        by_cases hs : s = []
        · refine ⟨z, hz, ?_⟩
          rw [hs, List.append_nil] at h1
          rw [← h1]
          exact he
        · exact ih s a b (by omega) (End.left hz he ht h1) hs ha' hb h2
      · -- z = t ++ s, b.flatten = s ++ a.flatten
        by_cases hs : s = []
        · refine ⟨z, hz, ?_⟩
          rw [hs, List.append_nil] at h1
          rw [h1]
          exact he
        · exact ih s b a (by omega) (End.right hz he ht h1) hs hb ha' h2
/-- A code of which no signal is an end is safe, if no signal is empty. -/
theorem safe_of {C : List (List α)} (hne : ∀ x ∈ C, x ≠ []) (h : ∀ x ∈ C, ¬ End C x) : Safe C := by
  intro a
  induction a with
  | nil =>
    intro b _ hb hf
    cases b with
    | nil => rfl
    | cons y b =>
      have := hne y hb.cons.1
      rw [List.flatten_cons] at hf
      exact absurd (List.append_eq_nil_iff.1 hf.symm).1 this
  | cons x a ih =>
    intro b ha hb hf
    obtain ⟨hx, ha'⟩ := ha.cons
    cases b with
    | nil =>
      rw [List.flatten_cons] at hf
      exact absurd (List.append_eq_nil_iff.1 hf).1 (hne x hx)
    | cons y b =>
      obtain ⟨hy, hb'⟩ := hb.cons
      rw [List.flatten_cons, List.flatten_cons] at hf
      by_cases hxy : x = y
      · subst hxy
        rw [ih b ha' hb' (List.append_cancel_left hf)]
      · exfalso
        rcases List.append_eq_append_iff.1 hf with ⟨s, h1, h2⟩ | ⟨s, h1, h2⟩
        · have hs : s ≠ [] := fun e => hxy (by rw [h1, e, List.append_nil])
          obtain ⟨z, hz, he⟩ := end_found _ s a b (Nat.le_refl _) (End.base hx hy hxy h1) hs ha' hb' h2
          exact h z hz he
        · have hs : s ≠ [] := fun e => hxy (by rw [h1, e, List.append_nil])
          obtain ⟨z, hz, he⟩ := end_found _ s b a (Nat.le_refl _) (End.base hy hx (fun e => hxy e.symm) h1) hs hb' ha' h2
          exact h z hz he
/-- A code of which no signal begins with another one is safe. -/
def PrefixFree (C : List (List α)) : Prop := ∀ x ∈ C, ∀ y ∈ C, x ≠ y → ∀ t, y ≠ x ++ t
theorem prefix_no_end {C : List (List α)} (h : PrefixFree C) {t : List α} : ¬ End C t := by
  intro he
  induction he with
  | base hx hy hne he => exact h _ hx _ hy hne _ he
  | left _ _ _ _ ih => exact ih
  | right _ _ _ _ ih => exact ih
theorem prefix_safe {C : List (List α)} (hne : ∀ x ∈ C, x ≠ []) (h : PrefixFree C) : Safe C := safe_of hne fun _ _ => prefix_no_end h
/-- A code is safe exactly if it is safe turned round. -/
theorem flatten_back (a : List (List α)) : (a.map List.reverse).reverse.flatten = a.flatten.reverse := by
  induction a with
  | nil => rfl
  | cons x a ih => simp only [List.map_cons, List.reverse_cons, List.flatten_append, List.flatten_cons, ih, List.flatten_nil, List.append_nil, List.reverse_append]
theorem msg_back {C a : List (List α)} (h : Msg (C.map List.reverse) a) : Msg C (a.map List.reverse).reverse := by
  intro x hx
  rw [List.mem_reverse, List.mem_map] at hx
  obtain ⟨y, hy, rfl⟩ := hx
  obtain ⟨z, hz, rfl⟩ := List.mem_map.1 (h y hy)
  rw [List.reverse_reverse]
  exact hz
theorem safe_back {C : List (List α)} (h : Safe C) : Safe (C.map List.reverse) := by
  intro a b ha hb hf
  have h2 := h _ _ (msg_back ha) (msg_back hb) (by rw [flatten_back, flatten_back, hf])
  have h3 := List.reverse_inj.1 h2
  have key : ∀ l : List (List α), (l.map List.reverse).map List.reverse = l := fun l => by
    rw [List.map_map]
    conv => rhs; rw [← List.map_id l]
    exact List.map_congr_left fun x _ => List.reverse_reverse x
  rw [← key a, ← key b, h3]
theorem safe_back_iff {C : List (List α)} : Safe (C.map List.reverse) ↔ Safe C := by
  refine ⟨fun h => ?_, safe_back⟩
  have h2 := safe_back h
  have key : (C.map List.reverse).map List.reverse = C := by
    rw [List.map_map]
    conv => rhs; rw [← List.map_id C]
    exact List.map_congr_left fun x _ => List.reverse_reverse x
  rwa [key] at h2
end
end Go.Proofs.YtoenecgjiejljaaDoor

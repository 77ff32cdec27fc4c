/-
  Walks through a table of weights, and a search that goes place by place. Plain arithmetic: no program.
-/
namespace Go.Proofs.Ytegehfcnclpdeaa
set_option linter.unusedVariables false

def wt (L : List (List Int)) (i j : Nat) : Int := (L.getD i []).getD j 0
/-- One can come from i to j in k steps. -/
def wk (L : List (List Int)) (n : Nat) : Nat → Nat → Nat → Prop
  | 0, i, j => i = j
  | k + 1, i, j => ∃ m, wk L n k i m ∧ m < n ∧ j < n ∧ 0 < wt L m j
def upd (F : Nat → Int) (j : Nat) (v : Int) : Nat → Int := fun p => if p = j then v else F p
theorem upd_at (F : Nat → Int) (j : Nat) (v : Int) : upd F j v j = v := if_pos rfl
theorem upd_off {F : Nat → Int} {j p : Nat} {v : Int} (h : p ≠ j) : upd F j v p = F p := if_neg h
/-- How many of the first n are -1. -/
def cu (F : Nat → Int) : Nat → Nat
  | 0 => 0
  | n + 1 => cu F n + (if F n = -1 then 1 else 0)
theorem cu_congr {F G : Nat → Int} : ∀ {n : Nat}, (∀ p, p < n → F p = G p) → cu F n = cu G n
  | 0, _ => rfl
  | n + 1, h => by
    show cu F n + _ = cu G n + _
    rw [cu_congr (n := n) fun p hp => h p (by omega), h n (by omega)]
theorem cu_upd {F : Nat → Int} {j : Nat} {v : Int} (hF : F j = -1) (hv : v ≠ -1) : ∀ {n : Nat}, j < n → cu (upd F j v) n + 1 = cu F n
  | 0, h => by omega
  | n + 1, h => by
    show cu (upd F j v) n + (if upd F j v n = -1 then 1 else 0) + 1 = cu F n + (if F n = -1 then 1 else 0)
    by_cases e : j = n
    · subst e
      rw [upd_at, if_neg hv, if_pos hF, cu_congr (F := upd F j v) (G := F) fun p hp => upd_off (by omega)]
    · have := cu_upd hF hv (n := n) (by omega)
      rw [upd_off (show n ≠ j by omega)]
      omega
theorem cu_all : ∀ n, cu (fun _ => -1) n = n
  | 0 => rfl
  | n + 1 => by
    show cu (fun _ => -1) n + (if (-1 : Int) = -1 then 1 else 0) = n + 1
    rw [cu_all n, if_pos rfl]
/-- A search under way: q was reached, what its first t places lead to is in it. -/
structure Bf (L : List (List Int)) (n i : Nat) (F : Nat → Int) (q : List Nat) (t : Nat) : Prop where
  lt : ∀ j ∈ q, j < n
  neg : ∀ j, j < n → (F j = -1 ↔ j ∉ q)
  pos : ∀ p j, q[p]? = some j → ∃ k : Nat, k ≤ p ∧ F j = k ∧ wk L n k i j
  clo : ∀ p a, p < t → q[p]? = some a → ∀ j, j < n → 0 < wt L a j → j ∈ q
  cnt : q.length + cu F n = n
theorem Bf.start {L : List (List Int)} {n i : Nat} (h : i < n) : Bf L n i (upd (fun _ => -1) i 0) [i] 0 := by
  refine ⟨fun j hj => ?_, fun j hj => ?_, fun p j hp => ?_, fun p a hp => by omega, ?_⟩
  · rw [List.mem_singleton] at hj
    omega
  · by_cases e : j = i
    · subst e
      rw [upd_at]
      simp
    · rw [upd_off e]
      simp [e]
  · cases p with
    | zero =>
      have : i = j := by simpa using hp
      subst this
      exact ⟨0, Nat.le_refl _, upd_at _ _ _, rfl⟩
    | succ p => simp at hp
  · have := cu_upd (F := fun _ => -1) (j := i) (v := 0) rfl (by decide) h
    rw [cu_all] at this
    simp
    omega
theorem Bf.len {L : List (List Int)} {n i : Nat} {F : Nat → Int} {q : List Nat} {t : Nat} (h : Bf L n i F q t) : q.length ≤ n := by
  have := h.cnt
  omega
theorem Bf.add {L : List (List Int)} {n i : Nat} {F : Nat → Int} {q : List Nat} {t a j : Nat} (h : Bf L n i F q t) (ha : q[t]? = some a) (hj : j < n) (hw : 0 < wt L a j) (hF : F j = -1) : Bf L n i (upd F j (F a + 1)) (q ++ [j]) t := by
  have hjq : j ∉ q := (h.neg j hj).1 hF
  have htq : t < q.length := (List.getElem?_eq_some_iff.1 ha).1
  obtain ⟨ka, hka, hFa, hwa⟩ := h.pos t a ha
  have haq : a ∈ q := List.mem_of_getElem? ha
  refine ⟨fun p hp => ?_, fun p hp => ?_, fun p b hp => ?_, fun p b hp hb m hm hwm => ?_, ?_⟩
  · rcases List.mem_append.1 hp with h1 | h1
    · exact h.lt p h1
    · rw [List.mem_singleton] at h1
      omega
  · by_cases e : p = j
    · subst e
      rw [upd_at]
      simp
      omega
    · rw [upd_off e, h.neg p hp]
      simp [e]
  · by_cases e : p < q.length
    · rw [List.getElem?_append_left e] at hp
      have hb : b ≠ j := fun e2 => hjq (e2 ▸ List.mem_of_getElem? hp)
      rw [upd_off hb]
      exact h.pos p b hp
    · rw [List.getElem?_append_right (by omega)] at hp
      have hpe : p = q.length := by
        have h3 := (List.getElem?_eq_some_iff.1 hp).1
        have : p - q.length < 1 := by simpa using h3
        omega
      subst hpe
      have : j = b := by simpa using hp
      subst this
      rw [upd_at]
      exact ⟨ka + 1, by omega, by omega, a, hwa, h.lt a haq, hj, hw⟩
  · have e : p < q.length := by omega
    rw [List.getElem?_append_left e] at hb
    exact List.mem_append.2 (.inl (h.clo p b hp hb m hm hwm))
  · have := cu_upd (v := F a + 1) hF (by omega) hj
    have := h.cnt
    rw [List.length_append]
    simp
    omega
theorem Bf.next {L : List (List Int)} {n i : Nat} {F : Nat → Int} {q : List Nat} {t a : Nat} (h : Bf L n i F q t) (ha : q[t]? = some a) (hc : ∀ j, j < n → 0 < wt L a j → j ∈ q) : Bf L n i F q (t + 1) := by
  refine ⟨h.lt, h.neg, h.pos, fun p b hp hb => ?_, h.cnt⟩
  by_cases e : p = t
  · subst e
    have : a = b := by rw [ha] at hb; injection hb
    subst this
    exact hc
  · exact h.clo p b (by omega) hb
/-- What a search says of each place: not reached, or reached in so many steps. -/
def StP (L : List (List Int)) (n i : Nat) (F : Nat → Int) : Prop := ∀ j, j < n → (F j = -1 ∧ ∀ k, ¬ wk L n k i j) ∨ ∃ k : Nat, k < n ∧ F j = k ∧ wk L n k i j
theorem Bf.done {L : List (List Int)} {n i : Nat} {F : Nat → Int} {q : List Nat} {t : Nat} (h : Bf L n i F q t) (hi : i ∈ q) (ht : q.length ≤ t) : StP L n i F := by
  have hall : ∀ k j, wk L n k i j → j ∈ q := by
    intro k
    induction k with
    | zero => intro j hj; exact hj ▸ hi
    | succ k ih =>
      rintro j ⟨m, hm, hmn, hjn, hw⟩
      obtain ⟨p, hp⟩ := List.getElem?_of_mem (ih m hm)
      have hpl := (List.getElem?_eq_some_iff.1 hp).1
      exact h.clo p m (by omega) hp j hjn hw
  intro j hj
  by_cases e : j ∈ q
  · obtain ⟨p, hp⟩ := List.getElem?_of_mem e
    have hpl := (List.getElem?_eq_some_iff.1 hp).1
    obtain ⟨k, hk, hF, hw⟩ := h.pos p j hp
    have := h.len
    exact .inr ⟨k, by omega, hF, hw⟩
  · exact .inl ⟨(h.neg j hj).2 e, fun k hk => e (hall k j hk)⟩
end Go.Proofs.Ytegehfcnclpdeaa

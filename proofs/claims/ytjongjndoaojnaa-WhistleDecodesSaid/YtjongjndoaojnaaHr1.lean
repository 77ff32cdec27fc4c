/-
  In how many ways a text is heard; which signals are taken from it one after another. No program in sight.
-/
import Derived.Test.YtjongjndoaojnaaPf1
namespace Go.Proofs.Ytjongjndoaojnaa
set_option linter.unusedVariables false

def wy (C : List ByteArray) : Nat → List UInt8 → Nat
  | 0, u => if u = [] then 1 else 0
  | n + 1, u => if u = [] then 1 else (C.map fun s => if bl s <+: u then wy C n (u.drop s.size) else 0).sum
theorem sum_congr' {α : Type} {f g : α → Nat} : ∀ {l : List α}, (∀ x ∈ l, f x = g x) → (l.map f).sum = (l.map g).sum
  | [], _ => rfl
  | x :: r, h => by
    rw [List.map_cons, List.map_cons, List.sum_cons, List.sum_cons, h x (List.mem_cons_self ..), sum_congr' fun y hy => h y (List.mem_cons_of_mem _ hy)]
theorem wy_fuel {C : List ByteArray} (hC : ∀ s ∈ C, 1 ≤ s.size) : ∀ (n m : Nat) (u : List UInt8), u.length ≤ n → u.length ≤ m → wy C n u = wy C m u := by
  intro n
  induction n with
  | zero =>
    intro m u h1 h2
    have hu : u = [] := List.eq_nil_of_length_eq_zero (by omega)
    subst hu
    cases m <;> rfl
  | succ n ih =>
    intro m u h1 h2
    by_cases hu : u = []
    · subst hu
      cases m <;> rfl
    · cases m with
      | zero => exact absurd (List.eq_nil_of_length_eq_zero (by omega)) hu
      | succ m =>
        unfold wy
        rw [if_neg hu, if_neg hu]
        refine sum_congr' fun s hs => ?_
        have h3 := hC s hs
        have h4 := List.length_pos_iff.2 hu
        by_cases hp : bl s <+: u
        · rw [if_pos hp, if_pos hp]
          exact ih m _ (by rw [List.length_drop]; omega) (by rw [List.length_drop]; omega)
        · rw [if_neg hp, if_neg hp]
/-- In how many ways a text is heard. -/
def ways (C : List ByteArray) (u : List UInt8) : Nat := wy C u.length u
def term (C : List ByteArray) (u : List UInt8) (s : ByteArray) : Nat := if bl s <+: u then ways C (u.drop s.size) else 0
theorem ways_nil (C : List ByteArray) : ways C [] = 1 := rfl
theorem ways_eq {C : List ByteArray} (hC : ∀ s ∈ C, 1 ≤ s.size) {u : List UInt8} (hu : u ≠ []) : ways C u = (C.map (term C u)).sum := by
  have hl := List.length_pos_iff.2 hu
  unfold ways
  obtain ⟨n, hn⟩ : ∃ n, u.length = n + 1 := ⟨u.length - 1, by omega⟩
  rw [hn, wy, if_neg hu]
  refine sum_congr' fun s hs => ?_
  unfold term
  by_cases hp : bl s <+: u
  · rw [if_pos hp, if_pos hp]
    unfold ways
    have := hC s hs
    exact wy_fuel hC _ _ _ (by rw [List.length_drop]; omega) (Nat.le_refl _)
  · rw [if_neg hp, if_neg hp]
theorem sum_sub {f : Nat → Nat} : ∀ {l m : List Nat}, l.Nodup → (∀ x ∈ l, x ∈ m) → (l.map f).sum ≤ (m.map f).sum
  | [], m, _, _ => Nat.zero_le _
  | x :: r, m, hn, h => by
    obtain ⟨h1, h2⟩ := List.nodup_cons.1 hn
    have hx := h x (List.mem_cons_self ..)
    have h3 := sum_sub (f := f) (l := r) (m := m.erase x) h2 fun y hy => by
      have hne : y ≠ x := fun e => h1 (e ▸ hy)
      exact (List.mem_erase_of_ne hne).2 (h y (List.mem_cons_of_mem _ hy))
    have h4 : ∀ {a b : List Nat}, a.Perm b → (a.map f).sum = (b.map f).sum := by
      intro a b hp
      induction hp with
      | nil => rfl
      | cons y _ ih => rw [List.map_cons, List.map_cons, List.sum_cons, List.sum_cons, ih]
      | swap y z l => simp only [List.map_cons, List.sum_cons]; omega
      | trans _ _ i1 i2 => exact i1.trans i2
    rw [h4 (List.perm_cons_erase hx), List.map_cons, List.sum_cons, List.map_cons, List.sum_cons]
    omega
theorem pow_sum : ∀ n, ((List.range n).map fun j => 2 ^ j).sum + 1 = 2 ^ n
  | 0 => rfl
  | n + 1 => by
    have := pow_sum n
    rw [List.range_succ, List.map_append, List.sum_append, Nat.pow_succ]
    simp only [List.map_cons, List.map_nil, List.sum_cons, List.sum_nil]
    omega
theorem term_sum {C : List ByteArray} {u : List UInt8} (hC : ∀ s ∈ C, 1 ≤ s.size) (hih : ∀ v : List UInt8, v.length < u.length → ways C v ≤ 2 ^ v.length) : ∀ D : List ByteArray, (∀ s ∈ D, s ∈ C) →
    (D.map (term C u)).sum ≤ (((D.filter fun s => decide (bl s <+: u)).map fun s => u.length - s.size).map fun j => 2 ^ j).sum
  | [], _ => Nat.le_refl _
  | s :: D, h => by
    have ih := term_sum hC hih D fun x hx => h x (List.mem_cons_of_mem _ hx)
    rw [List.map_cons, List.sum_cons]
    unfold term at ih ⊢
    by_cases hp : bl s <+: u
    · rw [if_pos hp, List.filter_cons_of_pos (by simpa using hp), List.map_cons, List.map_cons, List.sum_cons]
      have h1 := hC s (h s (List.mem_cons_self ..))
      have h2 := hp.length_le
      rw [bl_len] at h2
      have h3 := hih (u.drop s.size) (by rw [List.length_drop]; omega)
      rw [List.length_drop] at h3
      omega
    · rw [if_neg hp, List.filter_cons_of_neg (by simpa using hp)]
      omega
theorem ways_le {C : List ByteArray} (hC : ∀ s ∈ C, 1 ≤ s.size) (hn : C.Nodup) : ∀ (n : Nat) (u : List UInt8), u.length ≤ n → ways C u ≤ 2 ^ u.length := by
  intro n
  induction n with
  | zero =>
    intro u h
    have hu : u = [] := List.eq_nil_of_length_eq_zero (by omega)
    subst hu
    exact Nat.le_refl 1
  | succ n ih =>
    intro u h
    by_cases hu : u = []
    · subst hu
      exact Nat.le_refl _
    · rw [ways_eq hC hu]
      refine Nat.le_trans (term_sum hC (fun v hv => ih v (by omega)) C fun s hs => hs) ?_
      have hp := pow_sum u.length
      refine Nat.le_trans (sum_sub (m := List.range u.length) ?_ ?_) (by omega)
      · have hf : (C.filter fun s => decide (bl s <+: u)).Nodup := List.Pairwise.sublist List.filter_sublist hn
        unfold List.Nodup
        rw [List.pairwise_map]
        refine List.Pairwise.imp_of_mem ?_ hf
        intro a b ha hb hab e
        have pa := of_decide_eq_true (List.mem_filter.1 ha).2
        have pb := of_decide_eq_true (List.mem_filter.1 hb).2
        have la := pa.length_le
        have lb := pb.length_le
        rw [bl_len] at la lb
        refine hab (bl_inj ?_)
        rw [List.prefix_iff_eq_take.1 pa, List.prefix_iff_eq_take.1 pb, bl_len, bl_len, show a.size = b.size by omega]
      · intro x hx
        obtain ⟨s, hs, rfl⟩ := List.mem_map.1 hx
        have h1 := hC s (List.mem_filter.1 hs).1
        have h4 := List.length_pos_iff.2 hu
        exact List.mem_range.2 (by omega)
/-- A part of the sum. -/
def part (C : List ByteArray) (u : List UInt8) (i : Nat) : Nat := ((C.take i).map (term C u)).sum
theorem part_next {C : List ByteArray} {u : List UInt8} {i : Nat} {s : ByteArray} (h : C[i]? = some s) : part C u (i + 1) = part C u i + term C u s := by
  unfold part
  rw [List.take_add_one, h]
  simp
theorem part_le (C : List ByteArray) (u : List UInt8) (i : Nat) : part C u i ≤ part C u C.length := by
  unfold part
  rw [List.take_length]
  generalize term C u = f
  conv => rhs; rw [← List.take_append_drop i C]
  rw [List.map_append, List.sum_append]
  omega
theorem part_all {C : List ByteArray} (hC : ∀ s ∈ C, 1 ≤ s.size) {u : List UInt8} (hu : u ≠ []) : part C u C.length = ways C u := by
  unfold part
  rw [List.take_length, ways_eq hC hu]
/-! ### Signals taken one after another -/
def fst (C : List ByteArray) (u : List UInt8) : Option ByteArray := C.find? fun s => decide (bl s <+: u)
theorem fst_pre {C : List ByteArray} {u : List UInt8} {s : ByteArray} (h : fst C u = some s) : bl s <+: u := by
  have := List.find?_some (p := fun s => decide (bl s <+: u)) h
  exact of_decide_eq_true this
theorem fst_mem {C : List ByteArray} {u : List UInt8} {s : ByteArray} (h : fst C u = some s) : s ∈ C := List.mem_of_find?_eq_some (p := fun s => decide (bl s <+: u)) h
theorem sum_zero {α : Type} : ∀ l : List α, (l.map fun _ => 0).sum = 0
  | [] => rfl
  | _ :: r => by rw [List.map_cons, List.sum_cons, sum_zero r]
/-- The signals that are taken, and the rest. -/
def cmd (C : List ByteArray) : Nat → List UInt8 → List ByteArray × List UInt8
  | 0, u => ([], u)
  | n + 1, u => match fst C u with
    | some s => (s :: (cmd C n (u.drop s.size)).1, (cmd C n (u.drop s.size)).2)
    | none => ([], u)
theorem cmd_flat (C : List ByteArray) : ∀ (n : Nat) (u : List UInt8), ((cmd C n u).1.map bl).flatten ++ (cmd C n u).2 = u
  | 0, u => rfl
  | n + 1, u => by
    unfold cmd
    cases h : fst C u with
    | none => rfl
    | some s =>
      have hp := fst_pre h
      have ih := cmd_flat C n (u.drop s.size)
      simp only [List.map_cons, List.flatten_cons, List.append_assoc]
      rw [ih, ← bl_len]
      exact (pre_drop hp).symm
/-- In a code of which no signal begins with another one, a text is heard in at most one way: that in which signals are taken one after another. -/
theorem ways_cmd {C : List ByteArray} (hV : Vd C) (hp : Pf C C.length 0) : ∀ (n : Nat) (u : List UInt8), u.length ≤ n → ways C u = if (cmd C n u).2 = [] then 1 else 0 := by
  have hC : ∀ s ∈ C, 1 ≤ s.size := fun s hs => (sgB_iff.1 (hV.sg s hs)).1
  have huniq : ∀ (u : List UInt8) x y, x ∈ C → y ∈ C → bl x <+: u → bl y <+: u → x = y := by
    intro u x y hx hy px py
    apply Classical.byContradiction
    intro hne
    obtain ⟨i, hi⟩ := List.getElem?_of_mem hx
    obtain ⟨j, hj⟩ := List.getElem?_of_mem hy
    have hij : i ≠ j := fun e => by subst e; rw [hi] at hj; cases hj; exact hne rfl
    have h1 := hp i j x y hi hj hij (.inl (List.getElem?_eq_some_iff.1 hi).1)
    have h2 := hp j i y x hj hi (Ne.symm hij) (.inl (List.getElem?_eq_some_iff.1 hj).1)
    have n1 : ¬ bl y <+: bl x := of_decide_eq_false h1
    have n2 : ¬ bl x <+: bl y := of_decide_eq_false h2
    rcases List.prefix_or_prefix_of_prefix px py with h | h
    · exact n2 h
    · exact n1 h
  have hone : ∀ (u : List UInt8) s, s ∈ C → bl s <+: u → ∀ D : List ByteArray, D.Nodup → (∀ x ∈ D, x ∈ C) → (D.map (term C u)).sum = if inB s D = true then ways C (u.drop s.size) else 0 := by
    intro u s hs ps D
    induction D with
    | nil => intro _ _; rfl
    | cons x D ih =>
      intro hn hD
      obtain ⟨n1, n2⟩ := List.nodup_cons.1 hn
      have h3 := ih n2 fun y hy => hD y (List.mem_cons_of_mem _ hy)
      rw [List.map_cons, List.sum_cons, h3]
      by_cases hx : x = s
      · subst hx
        rw [if_neg fun h => n1 (inB_iff.1 h), if_pos (inB_iff.2 (List.mem_cons_self ..))]
        unfold term
        rw [if_pos ps]
        omega
      · have hnp : ¬ bl x <+: u := fun h => hx (huniq u x s (hD x (List.mem_cons_self ..)) hs h ps)
        unfold term
        rw [if_neg hnp, Nat.zero_add]
        by_cases hsD : s ∈ D
        · rw [if_pos (inB_iff.2 hsD), if_pos (inB_iff.2 (List.mem_cons_of_mem _ hsD))]
        · rw [if_neg fun h => hsD (inB_iff.1 h), if_neg fun h => by
            rcases List.mem_cons.1 (inB_iff.1 h) with h | h
            · exact hx h.symm
            · exact hsD h]
  intro n
  induction n with
  | zero =>
    intro u h
    have hu : u = [] := List.eq_nil_of_length_eq_zero (by omega)
    subst hu
    rfl
  | succ n ih =>
    intro u h
    by_cases hu : u = []
    · subst hu
      have : fst C [] = none := by
        unfold fst
        rw [List.find?_eq_none]
        intro s hs hd
        have h1 := of_decide_eq_true hd
        have h2 := h1.length_le
        rw [bl_len] at h2
        have h3 : s.size ≤ 0 := h2
        have := hC s hs
        omega
      unfold cmd
      rw [this]
      rfl
    · rw [ways_eq hC hu]
      unfold cmd
      cases hf : fst C u with
      | none =>
        have h1 := List.find?_eq_none.1 (show C.find? (fun s => decide (bl s <+: u)) = none from hf)
        rw [if_neg hu]
        have : (C.map (term C u)).sum = (C.map fun _ => 0).sum := sum_congr' fun s hs => by
          have := h1 s hs
          unfold term
          rw [if_neg (by simpa using this)]
        rw [this, sum_zero]
      | some s =>
        have hs := fst_mem hf
        have hps := fst_pre hf
        rw [hone u s hs hps C hV.nd fun x hx => hx, if_pos (inB_iff.2 hs)]
        have h1 := hC s hs
        have h4 := List.length_pos_iff.2 hu
        exact ih _ (by rw [List.length_drop]; omega)
end Go.Proofs.Ytjongjndoaojnaa

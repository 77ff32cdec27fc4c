/-
  The first message that is heard. No program in sight.
-/
import Derived.Test.YtjongjndoaojnaaHr1
namespace Go.Proofs.Ytjongjndoaojnaa
set_option linter.unusedVariables false

/-- A signal with which a message may begin. -/
def fit (C : List ByteArray) (u : List UInt8) (s : ByteArray) : Bool := decide (bl s <+: u) && decide (ways C (u.drop s.size) ≠ 0)
theorem fit_iff {C : List ByteArray} {u : List UInt8} {s : ByteArray} : fit C u s = true ↔ bl s <+: u ∧ ways C (u.drop s.size) ≠ 0 := by simp [fit]
theorem fit_term {C : List ByteArray} {u : List UInt8} {s : ByteArray} : fit C u s = true ↔ term C u s ≠ 0 := by
  rw [fit_iff]
  unfold term
  by_cases h : bl s <+: u
  · simp [h]
  · simp [h]
theorem sum_ne_zero {α : Type} {f : α → Nat} : ∀ {l : List α}, (l.map f).sum ≠ 0 ↔ ∃ x ∈ l, f x ≠ 0
  | [] => by simp
  | x :: r => by
    have ih := sum_ne_zero (f := f) (l := r)
    rw [List.map_cons, List.sum_cons]
    constructor
    · intro h
      by_cases hx : f x = 0
      · obtain ⟨y, hy, h2⟩ := ih.1 (by omega)
        exact ⟨y, List.mem_cons_of_mem _ hy, h2⟩
      · exact ⟨x, List.mem_cons_self .., hx⟩
    · rintro ⟨y, hy, h⟩
      rcases List.mem_cons.1 hy with rfl | hy
      · omega
      · have := ih.2 ⟨y, hy, h⟩
        omega
theorem ways_some {C : List ByteArray} (hC : ∀ s ∈ C, 1 ≤ s.size) {u : List UInt8} (hu : u ≠ []) : ways C u ≠ 0 ↔ ∃ s ∈ C, fit C u s = true := by
  rw [ways_eq hC hu, sum_ne_zero]
  constructor
  · rintro ⟨s, hs, h⟩
    exact ⟨s, hs, fit_term.2 h⟩
  · rintro ⟨s, hs, h⟩
    exact ⟨s, hs, fit_term.1 h⟩
/-- The number of the first such signal. -/
def fdx (C : List ByteArray) (u : List UInt8) : Option Nat := C.findIdx? (fit C u)
theorem fdx_some {C : List ByteArray} {u : List UInt8} {i : Nat} {s : ByteArray} (hi : C[i]? = some s) (hf : fit C u s = true) (h : ∀ (j : Nat) e, j < i → C[j]? = some e → fit C u e = false) : fdx C u = some i := by
  unfold fdx
  rw [List.findIdx?_eq_some_iff_getElem]
  obtain ⟨h1, h2⟩ := List.getElem?_eq_some_iff.1 hi
  refine ⟨h1, by rw [h2]; exact hf, fun j hj => ?_⟩
  have := h j C[j] hj (List.getElem?_eq_getElem (by omega))
  rw [this]
  exact Bool.false_ne_true
theorem fdx_fit {C : List ByteArray} {u : List UInt8} {i : Nat} (h : fdx C u = some i) : ∃ s, C[i]? = some s ∧ fit C u s = true ∧ ∀ (j : Nat) e, j < i → C[j]? = some e → fit C u e = false := by
  unfold fdx at h
  obtain ⟨h1, h2, h3⟩ := List.findIdx?_eq_some_iff_getElem.1 h
  refine ⟨C[i], List.getElem?_eq_getElem h1, h2, fun j e hj he => ?_⟩
  have h4 := h3 j hj
  obtain ⟨_, h5⟩ := List.getElem?_eq_some_iff.1 he
  rw [h5] at h4
  exact Bool.eq_false_iff.2 h4
theorem fdx_none {C : List ByteArray} {u : List UInt8} (h : ∀ s ∈ C, fit C u s = false) : fdx C u = none := by
  unfold fdx
  rw [List.findIdx?_eq_none_iff]
  exact h
theorem fdx_of_ways {C : List ByteArray} (hC : ∀ s ∈ C, 1 ≤ s.size) {u : List UInt8} (hu : u ≠ []) (hw : ways C u ≠ 0) : ∃ i, fdx C u = some i := by
  cases h : fdx C u with
  | some i => exact ⟨i, rfl⟩
  | none =>
    unfold fdx at h
    rw [List.findIdx?_eq_none_iff] at h
    obtain ⟨s, hs, hf⟩ := (ways_some hC hu).1 hw
    rw [h s hs] at hf
    cases hf
theorem fit_nil {C : List ByteArray} {s : ByteArray} (h : 1 ≤ s.size) : fit C [] s = false := by
  cases hf : fit C [] s with
  | false => rfl
  | true =>
    have := (fit_iff.1 hf).1.length_le
    rw [bl_len] at this
    have h3 : s.size ≤ 0 := this
    omega
def szAt (C : List ByteArray) (i : Nat) : Nat := match C[i]? with | some s => s.size | none => 0
def dcN (C : List ByteArray) : Nat → List UInt8 → List Nat
  | 0, _ => []
  | n + 1, u => match fdx C u with
    | none => []
    | some i => i :: dcN C n (u.drop (szAt C i))
theorem dcN_fuel {C : List ByteArray} (hC : ∀ s ∈ C, 1 ≤ s.size) : ∀ (n m : Nat) (u : List UInt8), u.length ≤ n → u.length ≤ m → dcN C n u = dcN C m u := by
  intro n
  induction n with
  | zero =>
    intro m u h1 h2
    have hu : u = [] := List.eq_nil_of_length_eq_zero (by omega)
    subst hu
    cases m with
    | zero => rfl
    | succ m =>
      unfold dcN
      rw [fdx_none fun s hs => fit_nil (hC s hs)]
  | succ n ih =>
    intro m u h1 h2
    cases m with
    | zero =>
      have hu : u = [] := List.eq_nil_of_length_eq_zero (by omega)
      subst hu
      unfold dcN
      rw [fdx_none fun s hs => fit_nil (hC s hs)]
    | succ m =>
      unfold dcN
      cases h : fdx C u with
      | none => rfl
      | some i =>
        obtain ⟨s, hs, hf, _⟩ := fdx_fit h
        have h3 := hC s (List.mem_of_getElem? hs)
        have h4 := (fit_iff.1 hf).1.length_le
        rw [bl_len] at h4
        have h5 : szAt C i = s.size := by unfold szAt; rw [hs]
        show i :: _ = i :: _
        rw [h5, ih m _ (by rw [List.length_drop]; omega) (by rw [List.length_drop]; omega)]
/-- The first message that is heard. -/
def dc (C : List ByteArray) (u : List UInt8) : List Nat := dcN C u.length u
theorem dc_nil (C : List ByteArray) : dc C [] = [] := rfl
theorem dc_cons {C : List ByteArray} (hC : ∀ s ∈ C, 1 ≤ s.size) {u : List UInt8} {i : Nat} {s : ByteArray} (h : fdx C u = some i) (hs : C[i]? = some s) : dc C u = i :: dc C (u.drop s.size) := by
  obtain ⟨s', hs', hf, _⟩ := fdx_fit h
  rw [hs] at hs'
  cases hs'
  have h3 := hC s (List.mem_of_getElem? hs)
  have h4 := (fit_iff.1 hf).1.length_le
  rw [bl_len] at h4
  have h5 : szAt C i = s.size := by unfold szAt; rw [hs]
  unfold dc
  obtain ⟨n, hn⟩ : ∃ n, u.length = n + 1 := ⟨u.length - 1, by omega⟩
  rw [hn, dcN, h]
  show i :: dcN C n (u.drop (szAt C i)) = _
  rw [h5, dcN_fuel hC n (u.drop s.size).length (u.drop s.size) (by rw [List.length_drop]; omega) (Nat.le_refl _)]
theorem dc_none {C : List ByteArray} (hC : ∀ s ∈ C, 1 ≤ s.size) {u : List UInt8} (hu : u ≠ []) (h : ways C u = 0) : dc C u = [] := by
  unfold dc
  cases hn : u.length with
  | zero => rfl
  | succ n =>
    unfold dcN
    rw [fdx_none]
    intro s hs
    cases hf : fit C u s with
    | false => rfl
    | true => exact absurd h ((ways_some hC hu).2 ⟨s, hs, hf⟩)
theorem dc_len {C : List ByteArray} (hC : ∀ s ∈ C, 1 ≤ s.size) : ∀ (n : Nat) (u : List UInt8), u.length ≤ n → (dc C u).length ≤ u.length := by
  intro n
  induction n with
  | zero =>
    intro u h
    have hu : u = [] := List.eq_nil_of_length_eq_zero (by omega)
    subst hu
    exact Nat.le_refl _
  | succ n ih =>
    intro u h
    cases hx : fdx C u with
    | none =>
      unfold dc
      cases hn : u.length with
      | zero => exact Nat.le_refl _
      | succ m =>
        unfold dcN
        rw [hx]
        exact Nat.zero_le _
    | some i =>
      obtain ⟨s, hs, hf, _⟩ := fdx_fit hx
      have h3 := hC s (List.mem_of_getElem? hs)
      have h4 := (fit_iff.1 hf).1.length_le
      rw [bl_len] at h4
      rw [dc_cons hC hx hs]
      have := ih (u.drop s.size) (by rw [List.length_drop]; omega)
      rw [List.length_drop] at this
      rw [List.length_cons]
      omega
/-- What the document says of a text: its first message, whether there is one. -/
def dcI (C : List ByteArray) (u : List UInt8) : List Int := (dc C u).map Int.ofNat
theorem dcI_cons {C : List ByteArray} (hC : ∀ s ∈ C, 1 ≤ s.size) {u : List UInt8} {i : Nat} {s : ByteArray} (h : fdx C u = some i) (hs : C[i]? = some s) : dcI C u = (i : Int) :: dcI C (u.drop s.size) := by
  unfold dcI
  rw [dc_cons hC h hs]
  rfl
end Go.Proofs.Ytjongjndoaojnaa

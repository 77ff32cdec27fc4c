/-
  A slice of structs of one-cell fields that came in: it reads as a list of records. No program in sight.
-/
import Derived.Test.YtoenecgjiejljaaDoorMem
import Derived.Deep.Slices
import Derived.Deep.Fields
import Derived.ChangeSame
import Derived.OpenShut
namespace Go.Proofs.YtoenecgjiejljaaDoor
open Go.RowKit Go.ChangeShapes Go.WideShapes Go.Deep Go.ChangeAt
set_option linter.unusedVariables false

theorem flat_at {α : Type} {cells : α → List Value} {nf : Nat} (hlen : ∀ x, (cells x).length = nf) : ∀ {l : List α} {k : Nat} {x : α} {j : Nat} {u : Value}, l[k]? = some x → (cells x)[j]? = some u → (l.flatMap cells)[k * nf + j]? = some u
  | [], _, _, _, _, h, _ => by simp at h
  | y :: r, 0, x, j, u, h, hj => by
    simp at h
    subst h
    have hl := (List.getElem?_eq_some_iff.1 hj).1
    rw [Nat.zero_mul, Nat.zero_add, List.flatMap_cons, List.getElem?_append_left hl]
    exact hj
  | y :: r, k + 1, x, j, u, h, hj => by
    have ih := flat_at hlen (l := r) (k := k) (x := x) (j := j) (u := u) (by simpa using h) hj
    rw [List.flatMap_cons, List.getElem?_append_right (by rw [hlen, Nat.succ_mul]; omega), hlen, Nat.succ_mul]
    have e : k * nf + nf + j - nf = k * nf + j := by omega
    rw [e]
    exact ih
theorem flat_inv {α : Type} {cells : α → List Value} {nf : Nat} (hlen : ∀ x, (cells x).length = nf) : ∀ {l : List α} {i : Nat} {u : Value}, (l.flatMap cells)[i]? = some u → ∃ k x j, l[k]? = some x ∧ j < nf ∧ i = k * nf + j ∧ (cells x)[j]? = some u
  | [], _, _, h => by simp at h
  | y :: r, i, u, h => by
    rw [List.flatMap_cons] at h
    rcases Nat.lt_or_ge i (cells y).length with hi | hi
    · rw [List.getElem?_append_left hi] at h
      exact ⟨0, y, i, rfl, by rw [← hlen y]; exact hi, by omega, h⟩
    · rw [List.getElem?_append_right hi] at h
      obtain ⟨k, x, j, hx, hj, he, hc⟩ := flat_inv hlen h
      rw [hlen] at he hi
      exact ⟨k + 1, x, j, by simpa using hx, hj, by rw [Nat.succ_mul]; omega, hc⟩
theorem flat_length {α : Type} {cells : α → List Value} {nf : Nat} (hlen : ∀ x, (cells x).length = nf) (l : List α) : (l.flatMap cells).length = l.length * nf := by
  induction l with
  | nil => simp
  | cons x r ih => rw [List.flatMap_cons, List.length_append, ih, hlen, List.length_cons, Nat.succ_mul]; omega
theorem list_of {α : Type} {R : Nat → α → Prop} : ∀ n : Nat, (∀ i, i < n → ∃ x, R i x) → ∃ l : List α, l.length = n ∧ ∀ i x, l[i]? = some x → R i x
  | 0, _ => ⟨[], rfl, fun i x h => by simp at h⟩
  | n + 1, h => by
    obtain ⟨l, hl, hr⟩ := list_of n fun i hi => h i (by omega)
    obtain ⟨x, hx⟩ := h n (by omega)
    refine ⟨l ++ [x], by simp [hl], fun i y hy => ?_⟩
    rcases Nat.lt_or_ge i l.length with hi | hi
    · rw [List.getElem?_append_left hi] at hy
      exact hr i y hy
    · rw [List.getElem?_append_right hi] at hy
      have h0 : i - l.length = 0 := by
        rcases Nat.eq_zero_or_pos (i - l.length) with h | h
        · exact h
        · rw [List.getElem?_eq_none (by simp; omega)] at hy; cases hy
      rw [h0] at hy
      simp at hy
      subst hy
      have : i = n := by omega
      subst this
      exact hx

section
variable {H : Type} {enc : TypeId × Value → H} {P : Program} {w : World}
theorem open_recs {α : Type} (cells : α → List Value) (Good : α → Prop) {t e : TypeId} {fs : Array Field} {v : Value} {d : DataW H} {p : List MemPlace} {r : Reach} {b0 : Nat} (ht : P.underlying t = some (.slice e)) (he : P.underlying e = some (.struct fs))
    (hone : oneCellFields P fs = true) (hC : P.cellsOf e = fs.size) (hlen : ∀ x, (cells x).length = fs.size) (hpos : 0 < fs.size)
    (hrow : ∀ (cv : Nat → Value), (∀ (j : Nat) (f : Field), fs[j]? = some f → ∃ n y, DataW.trod enc P w 0 (fun _ => true) true n f.type [cv j] = some y) → ∃ x, Good x ∧ ∀ j, j < fs.size → (cells x)[j]? = some (cv j))
    (hval : Value.okWide P w r b0 t v) (h : DataW.Trod enc P w 0 (fun _ => true) true t v d p) :
    ∃ (A : Option Addr) (c : Nat) (l : List α), v = .slice A (l.length : Nat) c ∧ l.length ≤ c ∧ c ≤ maxLen ∧ Rd w w.heap.size A (l.flatMap cells) ∧ ∀ x ∈ l, Good x := by
  obtain ⟨a0, len, cap, rfl⟩ := okWide_slice ht hval
  obtain ⟨fuel, hf⟩ := h
  rcases open_slice ht hf with ⟨hcs, _⟩ | ⟨a, len', cap', m, n, D, Pl, hcs, _, hl, hm, hmm, _, hi⟩
  · have : a0 = none ∧ len = 0 ∧ cap = 0 := by simpa [Value.cells] using hcs
    obtain ⟨rfl, rfl, rfl⟩ := this
    exact ⟨none, 0, [], rfl, by simp, by simp [maxLen], .inl rfl, by simp⟩
  · have : a0 = some a ∧ len = len' ∧ cap = cap' := by simpa [Value.cells] using hcs
    obtain ⟨rfl, rfl, rfl⟩ := this
    simp only [if_true] at hmm
    have key : ∀ i, i < len → ∃ x, Good x ∧ ∀ j u, (cells x)[j]? = some u → w.cell? (a.add (i * fs.size + j)) = some u := by
      intro i him
      obtain ⟨cs', hc, ht'⟩ := hi i (by omega)
      rw [hC] at hc
      obtain ⟨ys, n', hn', hy, hlen', hyl, hfld⟩ := DataW.trod_struct he ht'
      obtain ⟨_, hcl, hat⟩ := World.cells?_some hc
      have hcl' : cs'.length = fs.size := hcl
      obtain ⟨x, hg, hx⟩ := hrow (fun j => cs'.getD j undef) (fun j f hj => by
        obtain ⟨ho, hk⟩ := hone_of hone j f hj
        have hjl : j < fs.size := (Array.getElem?_eq_some_iff.1 hj).1
        have h1 := hfld j f hj
        rw [ho, hk] at h1
        have hone' : (cs'.drop j).take 1 = [cs'.getD j undef] := by
          rw [List.drop_eq_getElem_cons (by omega), List.getD_eq_getElem?_getD, List.getElem?_eq_getElem (by omega)]
          rfl
        rw [hone'] at h1
        have hys : ys[j]? = some (ys[j]'(by omega)) := List.getElem?_eq_getElem (by omega)
        exact ⟨_, _, h1.trans hys⟩)
      refine ⟨x, hg, fun j u hu => ?_⟩
      have hj : j < fs.size := by rw [← hlen x]; exact (List.getElem?_eq_some_iff.1 hu).1
      have hcell := hat j hj
      rw [← Go.Deep.add_add, hcell]
      rw [hx j hj] at hu
      rw [← hu, List.getD_eq_getElem?_getD, List.getElem?_eq_getElem (by omega)]
      rfl
    obtain ⟨l, hll, hlr⟩ := list_of len key
    refine ⟨some a, cap, l, by rw [hll], by omega, hm, ?_, fun x hx => by
      obtain ⟨i, hi, he⟩ := List.getElem_of_mem hx
      exact (hlr i x (by rw [← he]; exact List.getElem?_eq_getElem hi)).1⟩
    by_cases h0 : l = []
    · subst h0
      exact .inl rfl
    · have hcell : ∀ i u, (l.flatMap cells)[i]? = some u → w.cell? (a.add i) = some u := by
        intro i u hu
        obtain ⟨k, x, j, hx, hj, he, hc⟩ := flat_inv hlen hu
        rw [he]
        exact (hlr k x hx).2 j u hc
      obtain ⟨b, off, spot⟩ := a
      have hfl : 0 < (l.flatMap cells).length := by
        rw [flat_length hlen]
        exact Nat.mul_pos (List.length_pos_iff.2 h0) hpos
      have hc0 := hcell 0 _ (List.getElem?_eq_getElem hfl)
      have hspot : spot = none := by simpa [Addr.add] using World.cell?_spot hc0
      subst hspot
      have hlt : b < w.heap.size := World.block_lt_of_cell? w _ (by simpa [Addr.add] using hc0)
      exact .inr ⟨b, off, rfl, hlt, fun i u hu => by rw [← Go.WideShapes.add_plain]; exact hcell i u hu⟩
end
end Go.Proofs.YtoenecgjiejljaaDoor

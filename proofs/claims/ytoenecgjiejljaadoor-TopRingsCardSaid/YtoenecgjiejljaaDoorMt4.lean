/-
  Texts merged into one (Pnt, Gen): contracts of the functions of package lure, what is reckoned of games. Conditions: as each says.
-/
import Derived.Test.YtoenecgjiejljaaDoorMt3
namespace Go.Proofs.YtoenecgjiejljaaDoor
open Go.RowKit
set_option linter.unusedVariables false

structure Pt where
  x : Int
  y : Int
structure Sg where
  a : Pt
  b : Pt
def Pt.cells (p : Pt) : List Value := [.int .i64 p.x, .int .i64 p.y]
def Pt.v (p : Pt) : Value := .agg #[.int .i64 p.x, .int .i64 p.y]
def Sg.cells (s : Sg) : List Value := [.int .i64 s.a.x, .int .i64 s.a.y, .int .i64 s.b.x, .int .i64 s.b.y]
def Sg.v (s : Sg) : Value := .agg #[.int .i64 s.a.x, .int .i64 s.a.y, .int .i64 s.b.x, .int .i64 s.b.y]
theorem ptLen (p : Pt) : (Pt.cells p).length = 2 := rfl
theorem sgLen (s : Sg) : (Sg.cells s).length = 4 := rfl
def okC (n : Int) : Bool := decide (-100 ≤ n) && decide (n ≤ 100)
def okP (p : Pt) : Bool := okC p.x && okC p.y
def side (a b p : Pt) : Int := (b.x - a.x) * (p.y - a.y) - (b.y - a.y) * (p.x - a.x)
def meetI (a b c d : Int) : Bool := decide (max (min a b) (min c d) ≤ min (max a b) (max c d))
def touchB (a b c d : Pt) : Bool := meetI a.x b.x c.x d.x && (meetI a.y b.y c.y d.y && (decide (side a b c * side a b d ≤ 0) && decide (side c d a * side c d b ≤ 0)))

theorem okC_iff {n : Int} : okC n = true ↔ -100 ≤ n ∧ n ≤ 100 := by simp [okC]
theorem okP_iff {p : Pt} : okP p = true ↔ (-100 ≤ p.x ∧ p.x ≤ 100) ∧ (-100 ≤ p.y ∧ p.y ≤ 100) := by simp [okP, okC_iff]
theorem mul_le {u v A B : Int} (hu : -A ≤ u ∧ u ≤ A) (hv : -B ≤ v ∧ v ≤ B) : -(A * B) ≤ u * v ∧ u * v ≤ A * B := by
  have hA : 0 ≤ A := by omega
  have hB : 0 ≤ B := by omega
  have h1 : u * v ≤ A * B := by
    rcases Int.le_total 0 v with h | h
    · exact Int.le_trans (Int.mul_le_mul_of_nonneg_right hu.2 h) (Int.mul_le_mul_of_nonneg_left hv.2 hA)
    · have : u * v = (-u) * (-v) := by rw [Int.neg_mul_neg]
      rw [this]
      exact Int.le_trans (Int.mul_le_mul_of_nonneg_right (show -u ≤ A by omega) (by omega)) (Int.mul_le_mul_of_nonneg_left (by omega) hA)
  have h2 : -(u * v) ≤ A * B := by
    rcases Int.le_total 0 v with h | h
    · have : -(u * v) = (-u) * v := by rw [Int.neg_mul]
      rw [this]
      exact Int.le_trans (Int.mul_le_mul_of_nonneg_right (show -u ≤ A by omega) h) (Int.mul_le_mul_of_nonneg_left hv.2 hA)
    · have : -(u * v) = u * (-v) := by rw [Int.mul_neg]
      rw [this]
      exact Int.le_trans (Int.mul_le_mul_of_nonneg_right hu.2 (by omega)) (Int.mul_le_mul_of_nonneg_left (by omega) hA)
  exact ⟨by omega, h1⟩
/-- How large what is reckoned with gets. -/
theorem side_le {a b p : Pt} (ha : okP a = true) (hb : okP b = true) (hp : okP p = true) :
    (-200 ≤ b.x - a.x ∧ b.x - a.x ≤ 200) ∧ (-200 ≤ p.y - a.y ∧ p.y - a.y ≤ 200) ∧ (-200 ≤ b.y - a.y ∧ b.y - a.y ≤ 200) ∧ (-200 ≤ p.x - a.x ∧ p.x - a.x ≤ 200) ∧
    (-40000 ≤ (b.x - a.x) * (p.y - a.y) ∧ (b.x - a.x) * (p.y - a.y) ≤ 40000) ∧ (-40000 ≤ (b.y - a.y) * (p.x - a.x) ∧ (b.y - a.y) * (p.x - a.x) ≤ 40000) ∧ (-80000 ≤ side a b p ∧ side a b p ≤ 80000) := by
  rw [okP_iff] at ha hb hp
  have h1 : -200 ≤ b.x - a.x ∧ b.x - a.x ≤ 200 := by omega
  have h2 : -200 ≤ p.y - a.y ∧ p.y - a.y ≤ 200 := by omega
  have h3 : -200 ≤ b.y - a.y ∧ b.y - a.y ≤ 200 := by omega
  have h4 : -200 ≤ p.x - a.x ∧ p.x - a.x ≤ 200 := by omega
  have m1 := mul_le h1 h2
  have m2 := mul_le h3 h4
  refine ⟨h1, h2, h3, h4, by omega, by omega, ?_⟩
  unfold side
  omega
theorem side2_le {a b p q : Pt} (ha : okP a = true) (hb : okP b = true) (hp : okP p = true) (hq : okP q = true) : -6400000000 ≤ side a b p * side a b q ∧ side a b p * side a b q ≤ 6400000000 := by
  have := mul_le (side_le ha hb hp).2.2.2.2.2.2 (side_le ha hb hq).2.2.2.2.2.2
  omega

/-! ### Symmetry -/
theorem meet_swap (a b c d : Int) : meetI a b c d = meetI d c a b := by
  unfold meetI
  rw [Bool.eq_iff_iff]
  simp only [decide_eq_true_eq]
  omega
theorem side_rev (a b p : Pt) : side b a p = -side a b p := by
  unfold side
  grind
theorem touch_swap (a b c d : Pt) : touchB a b c d = touchB d c a b := by
  unfold touchB
  rw [meet_swap a.x b.x c.x d.x, meet_swap a.y b.y c.y d.y, side_rev c d a, side_rev c d b, Int.neg_mul_neg]
  have : side a b d * side a b c = side a b c * side a b d := Int.mul_comm _ _
  rw [this]
  cases meetI d.x c.x a.x b.x <;> cases meetI d.y c.y a.y b.y <;> simp [Bool.and_comm]
theorem touch_pair (a b c d : Pt) : touchB a b c d = touchB c d a b := by
  unfold touchB
  have e1 : ∀ a b c d : Int, meetI a b c d = meetI c d a b := fun a b c d => by
    unfold meetI; rw [Bool.eq_iff_iff]; simp only [decide_eq_true_eq]; omega
  rw [e1 a.x b.x c.x d.x, e1 a.y b.y c.y d.y]
  cases meetI c.x d.x a.x b.x <;> cases meetI c.y d.y a.y b.y <;> simp [Bool.and_comm]
theorem touch_rev (a b c d : Pt) : touchB a b c d = touchB a b d c := by rw [touch_swap, touch_pair]

/-! ### Opening -/
open Go.ChangeShapes Go.WideShapes Go.Deep Go.ChangeAt
section
variable {H : Type} {enc : TypeId × Value → H} {P : Program} {w : World}
theorem pt_of {e : TypeId} {f0 f1 : Field} {n : Nat} {cs : List Value} {y : DataW H × List MemPlace} (he : P.underlying e = some (.struct #[f0, f1])) (o0 : f0.offset = 0) (o1 : f1.offset = 1) (c0 : P.cellsOf f0.type = 1) (c1 : P.cellsOf f1.type = 1)
    (hC : P.cellsOf e = 2) (u0 : P.underlying f0.type = some (.int .i64)) (u1 : P.underlying f1.type = some (.int .i64)) (h : DataW.trod enc P w 0 (fun _ => true) true n e cs = some y) : ∃ p : Pt, cs = p.cells ∧ (Lit.int .i64 p.x).wf = true ∧ (Lit.int .i64 p.y).wf = true := by
  obtain ⟨ys, n', _, _, hlen, hyl, hf⟩ := DataW.trod_struct he h
  rw [hC] at hlen
  match cs, hlen with
  | [v0, v1], _ =>
    match ys, hyl with
    | [y0, y1], _ =>
      have h0 := hf 0 f0 rfl
      have h1 := hf 1 f1 rfl
      rw [o0, c0] at h0
      rw [o1, c1] at h1
      obtain ⟨a, ha, _, w0⟩ := DataW.trod_int u0 h0
      obtain ⟨b, hb, _, w1⟩ := DataW.trod_int u1 h1
      simp at ha hb
      exact ⟨⟨a, b⟩, by simp [Pt.cells, ha, hb], w0, w1⟩
def GoodP (p : Pt) : Prop := (Lit.int .i64 p.x).wf = true ∧ (Lit.int .i64 p.y).wf = true
def GoodS (s : Sg) : Prop := GoodP s.a ∧ GoodP s.b
theorem sg_of {e ep : TypeId} {f0 f1 g0 g1 : Field} {n : Nat} {cs : List Value} {y : DataW H × List MemPlace} (hs : P.underlying e = some (.struct #[g0, g1])) (t0 : g0.type = ep) (t1 : g1.type = ep) (q0 : g0.offset = 0) (q1 : g1.offset = 2) (hCs : P.cellsOf e = 4)
    (he : P.underlying ep = some (.struct #[f0, f1])) (o0 : f0.offset = 0) (o1 : f1.offset = 1) (c0 : P.cellsOf f0.type = 1) (c1 : P.cellsOf f1.type = 1)
    (hC : P.cellsOf ep = 2) (u0 : P.underlying f0.type = some (.int .i64)) (u1 : P.underlying f1.type = some (.int .i64)) (h : DataW.trod enc P w 0 (fun _ => true) true n e cs = some y) : ∃ s : Sg, cs = s.cells ∧ GoodS s := by
  obtain ⟨ys, n', _, _, hlen, hyl, hf⟩ := DataW.trod_struct hs h
  rw [hCs] at hlen
  match cs, hlen with
  | [v0, v1, v2, v3], _ =>
    match ys, hyl with
    | [y0, y1], _ =>
      have h0 := hf 0 g0 rfl
      have h1 := hf 1 g1 rfl
      rw [q0, t0, hC] at h0
      rw [q1, t1, hC] at h1
      obtain ⟨a, ha, wa⟩ := pt_of he o0 o1 c0 c1 hC u0 u1 h0
      obtain ⟨b, hb, wb⟩ := pt_of he o0 o1 c0 c1 hC u0 u1 h1
      simp [Pt.cells] at ha hb
      exact ⟨⟨a, b⟩, by simp [Sg.cells, ha, hb], wa, wb⟩
/-- A slice of records that came in, whatever its elements are. -/
theorem open_list {α : Type} (cells : α → List Value) (Good : α → Prop) {t e : TypeId} {C : Nat} {v : Value} {d : DataW H} {p : List MemPlace} {r : Reach} {b0 : Nat} (ht : P.underlying t = some (.slice e)) (hC : P.cellsOf e = C) (hpos : 0 < C) (hlen : ∀ x, (cells x).length = C)
    (hrow : ∀ (n : Nat) (cs : List Value) (y : DataW H × List MemPlace), DataW.trod enc P w 0 (fun _ => true) true n e cs = some y → ∃ x, cs = cells x ∧ Good x)
    (hval : Value.okWide P w r b0 t v) (h : DataW.Trod enc P w 0 (fun _ => true) true t v d p) :
    ∃ (A : Option Addr) (c : Nat) (l : List α), v = .slice A (l.length : Nat) c ∧ l.length ≤ c ∧ c ≤ maxLen ∧ Rd w w.heap.size A (l.flatMap cells) ∧ ∀ x ∈ l, Good x := by
  obtain ⟨a0, len, cap, rfl⟩ := okWide_slice ht hval
  obtain ⟨fuel, hf⟩ := h
  rcases open_slice ht hf with ⟨hcs, _⟩ | ⟨a, len', cap', m, n, D, Pl, hcs, _, hl, hm, hmm, _, hi⟩
  · have : a0 = none ∧ len = 0 ∧ cap = 0 := by simpa [Value.cells] using hcs
    obtain ⟨rfl, rfl, rfl⟩ := this
    exact ⟨none, 0, [], rfl, by simp, by simp [maxLen], .inl rfl, by simp⟩
  · have : a0 = some a ∧ len = len' ∧ cap = cap' := by simpa [Value.cells] using hcs
    obtain ⟨rfl, rfl, rfl⟩ := this
    simp only [if_true] at hmm
    have key : ∀ i, i < len → ∃ x, Good x ∧ ∀ j u, (cells x)[j]? = some u → w.cell? (a.add (i * C + j)) = some u := by
      intro i him
      obtain ⟨cs', hc, ht'⟩ := hi i (by omega)
      rw [hC] at hc
      obtain ⟨_, hcl, hat⟩ := World.cells?_some hc
      obtain ⟨x, hx, hg⟩ := hrow _ _ _ ht'
      refine ⟨x, hg, fun j u hu => ?_⟩
      have hj : j < C := by rw [← hlen x]; exact (List.getElem?_eq_some_iff.1 hu).1
      rw [← Go.Deep.add_add, hat j hj, hx]
      exact hu
    obtain ⟨l, hll, hlr⟩ := list_of len key
    refine ⟨some a, cap, l, by rw [hll], by omega, hm, ?_, fun x hx => by
      obtain ⟨i, hi, he⟩ := List.getElem_of_mem hx
      exact (hlr i x (by rw [← he]; exact List.getElem?_eq_getElem hi)).1⟩
    by_cases h0 : l = []
    · subst h0
      exact .inl rfl
    · have hcell : ∀ i u, (l.flatMap cells)[i]? = some u → w.cell? (a.add i) = some u := by
        intro i u hu
        obtain ⟨k, x, j, hx, hj, he, hc⟩ := flat_inv hlen hu
        rw [he]
        exact (hlr k x hx).2 j u hc
      obtain ⟨b, off, spot⟩ := a
      have hfl : 0 < (l.flatMap cells).length := by
        rw [flat_length hlen]
        exact Nat.mul_pos (List.length_pos_iff.2 h0) hpos
      have hc0 := hcell 0 _ (List.getElem?_eq_getElem hfl)
      have hspot : spot = none := by simpa [Addr.add] using World.cell?_spot hc0
      subst hspot
      have hlt : b < w.heap.size := World.block_lt_of_cell? w _ (by simpa [Addr.add] using hc0)
      exact .inr ⟨b, off, rfl, hlt, fun i u hu => by rw [← Go.WideShapes.add_plain]; exact hcell i u hu⟩
/-- A struct that came in by value. -/
theorem open_rec {α : Type} (cells : α → List Value) (Good : α → Prop) {t : TypeId} {fs : Array Field} {v : Value} {d : DataW H} {p : List MemPlace} {r : Reach} {b0 : Nat} (ht : P.underlying t = some (.struct fs))
    (hrow : ∀ (n : Nat) (cs : List Value) (y : DataW H × List MemPlace), DataW.trod enc P w 0 (fun _ => true) true n t cs = some y → ∃ x, cs = cells x ∧ Good x)
    (hval : Value.okWide P w r b0 t v) (h : DataW.Trod enc P w 0 (fun _ => true) true t v d p) : ∃ x, v = .agg (cells x).toArray ∧ Good x := by
  obtain ⟨cs, rfl, _⟩ := okWide_struct ht hval
  obtain ⟨fuel, hf⟩ := h
  obtain ⟨x, hx, hg⟩ := hrow _ _ _ hf
  refine ⟨x, ?_, hg⟩
  have : cs.toList = cells x := by simpa [Value.cells] using hx
  rw [← this]
end
theorem Rd.rec {α : Type} {cells : α → List Value} {nf : Nat} (hlen : ∀ x, (cells x).length = nf) (hpos : 0 < nf) {w : World} {B : Nat} {A : Option Addr} {l : List α} (h : Rd w B A (l.flatMap cells)) (k : Nat) (hk : k < l.length) :
    ∃ b o x, A = some ⟨b, o, none⟩ ∧ b < B ∧ Hid (l[k]? = some x) ∧ ∀ j u, (cells x)[j]? = some u → w.cell? ⟨b, o + (k * nf + j), none⟩ = some u := by
  have hx : l[k]? = some l[k] := List.getElem?_eq_getElem hk
  rcases h with h0 | ⟨b', o', ha', hb, hc'⟩
  · have := flat_length hlen l
    rw [h0] at this
    have := Nat.mul_pos (show 0 < l.length by omega) hpos
    simp at *
    omega
  · exact ⟨b', o', _, ha', hb, hx, fun j u hu => hc' _ _ (flat_at hlen hx hu)⟩
end Go.Proofs.YtoenecgjiejljaaDoor
namespace Go.Proofs.YtoenecgjiejljaaDoor
open Go.RowKit
set_option linter.unusedVariables false

theorem cell_up {w : World} {o : Obj} {p : Addr} {u : Value} (h : w.cell? p = some u) : (w.alloc o).cell? p = some u := by
  rw [World.cell?_alloc_lt w o p (World.block_lt_of_cell? w p h)]
  exact h
theorem Rd.of_block {w : World} {g : Nat} {e : TypeId} {xs : List Value} (h : w.heap[g]? = some (.cells xs.toArray e (0, 0))) : Rd w w.heap.size (some ⟨g, 0, none⟩) xs :=
  .inr ⟨g, 0, rfl, lt_of_block h, fun i u hu => by simp [World.cell?, h, hu]⟩
theorem Rd.lit (w : World) (cs : List Value) (e : TypeId) : Rd (w.alloc (.cells cs.toArray e)) (w.alloc (.cells cs.toArray e)).heap.size (some ⟨w.heap.size, 0, none⟩) cs :=
  Rd.of_block (heap_alloc_new w _)
theorem one_pt (w : World) (v0 v1 : Value) (t : TypeId) : ∃ W, w.alloc (.cells #[v0, v1] t) = W ∧ W.cell? ⟨w.heap.size, 0, none⟩ = some v0 ∧ W.cell? ⟨w.heap.size, 1, none⟩ = some v1 ∧ w.heap.size < W.heap.size ∧ Below w.heap.size w W := by
  have h := heap_alloc_new w (.cells #[v0, v1] t)
  refine ⟨_, rfl, ?_, ?_, by simp, (Below.refl _ _).alloc (Nat.le_refl _) _⟩ <;> rw [cell_of_row _ _ _ _ _ _ h] <;> rfl
theorem pt_keep {W w1 : World} {n : Nat} {v0 v1 : Value} (h : W.cell? ⟨n, 0, none⟩ = some v0 ∧ W.cell? ⟨n, 1, none⟩ = some v1 ∧ n < W.heap.size) (hb : Below W.heap.size W w1) :
    w1.cell? ⟨n, 0, none⟩ = some v0 ∧ w1.cell? ⟨n, 1, none⟩ = some v1 := by
  obtain ⟨h0, h1, hn⟩ := h
  have k := fun o => hb.cell (p := ⟨n, o, none⟩) hn
  exact ⟨(k 0).trans h0, (k 1).trans h1⟩
theorem own_below {w w' : World} {base n : Nat} {e : TypeId} {size : Nat} {v : Value} {xs : List Value} (h : w.ownsRow base e size v n xs) (hb : Below w.heap.size w w') : w'.ownsRow base e size v n xs := by
  refine ⟨h.1, ?_⟩
  rcases h.2 with h1 | ⟨g, cap, cur, hv, hbg, hg, rest⟩
  · exact .inl h1
  · exact .inr ⟨g, cap, cur, hv, hbg, (hb.block g (lt_of_block hg)).trans hg, rest⟩
theorem own_full {w : World} {base g n : Nat} {e : TypeId} {xs : List Value} (h : w.ownsRow base e 1 (.slice (some ⟨g, 0, none⟩) n n) n xs) : w.heap[g]? = some (.cells xs.toArray e (0, 0)) := by
  rcases h.2 with ⟨hv, _⟩ | ⟨g', cap, cur, hv, _, hg, _, _, hcs, htake⟩
  · cases hv
  · injection hv with h1 h2 h3
    injection h1 with h1
    injection h1 with h1
    subst h1; subst h3
    have : cur.toList = xs := by rw [← htake, List.take_of_length_le (by simp [hcs])]
    rw [← this]
    simpa using hg
theorem blk_set {w : World} {g : Nat} {t : TypeId} {cs : Array Value} (h : w.heap[g]? = some (.cells cs t (0, 0))) (i : Nat) (u : Value) : (w.setCell ⟨g, i, none⟩ u).heap[g]? = some (.cells (cs.setIfInBounds i u) t (0, 0)) := by
  simp [World.setCell, Array.getElem?_modify, h]
theorem blk_free {w : World} {g : Nat} {t : TypeId} {cs : Array Value} (h : w.heap[g]? = some (.cells cs t (0, 0))) (i : Nat) : w.frozen? ⟨g, i, none⟩ = false := by
  simp [World.frozen?, h]
theorem copy_from {w : World} {B g off : Nat} {A : Option Addr} {cs : List Value} (h : Rd w B A cs) :
    0 < cs.length → some (⟨g, off, none⟩ : Addr) = some ⟨g, off, none⟩ ∧ ∃ ad, A = some ad ∧ ∀ j v, cs[j]? = some v → w.cell? (ad.add j) = some v := by
  intro hp
  refine ⟨rfl, ?_⟩
  rcases h with h0 | ⟨b, o, ha, _, hc⟩
  · rw [h0] at hp; simp at hp
  · exact ⟨_, ha, fun j v hv => by rw [Go.WideShapes.add_plain]; exact hc j v hv⟩
theorem Rd.pt {w : World} {B : Nat} {A : Option Addr} {l : List Pt} (h : Rd w B A (l.flatMap Pt.cells)) (k : Nat) (hk : k < l.length) :
    ∃ b o p, A = some ⟨b, o, none⟩ ∧ Hid (l[k]? = some p) ∧ w.cell? ⟨b, o + k * 2, none⟩ = some (.int .i64 p.x) ∧ w.cell? ⟨b, o + k * 2 + 1, none⟩ = some (.int .i64 p.y) := by
  obtain ⟨b, o, p, ha, _, hx, hc⟩ := h.rec ptLen (by decide) k hk
  exact ⟨b, o, p, ha, hx, hc 0 _ rfl, hc 1 _ rfl⟩
/-- A block that a box of many cells makes. -/
theorem one_blk (w : World) (cs : Array Value) (t : TypeId) : ∃ W, w.alloc (.cells cs t) = W ∧ W.heap[w.heap.size]? = some (.cells cs t (0, 0)) ∧ w.heap.size < W.heap.size ∧ Below w.heap.size w W :=
  ⟨_, rfl, heap_alloc_new w _, by simp, (Below.refl _ _).alloc (Nat.le_refl _) _⟩
theorem blk_cell {w : World} {g j : Nat} {cs : Array Value} {t : TypeId} (h : w.heap[g]? = some (.cells cs t (0, 0))) : w.cell? ⟨g, j, none⟩ = cs[j]? := cell_of_row w g j cs t _ h
end Go.Proofs.YtoenecgjiejljaaDoor

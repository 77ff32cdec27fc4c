/-
  A game in memory: a slice of owners, a slice of slices of moves; a game that came in. No program in sight.
-/
import Derived.Test.YtfmhanpibgmgfaaPnt
import Derived.Test.YtfmhanpibgmgfaaPost
import Derived.Test.YtfmhanpibgmgfaaLb2
namespace Go.Proofs.Ytfmhanpibgmgfaa
open Go.RowKit
set_option linter.unusedVariables false

/-- A row of moves as it lies in memory. -/
structure Rw where
  A : Option Addr
  c : Nat
  l : List Int
def Rw.v (r : Rw) : Value := .slice r.A r.l.length r.c
def Rw.cells (r : Rw) : List Value := [r.v]
theorem rwLen (r : Rw) : (Rw.cells r).length = 1 := rfl
theorem rw_flat (rs : List Rw) : rs.flatMap Rw.cells = rs.map Rw.v := by
  induction rs with
  | nil => rfl
  | cons r rs ih => rw [List.flatMap_cons, ih]; rfl
def Rw.good (w : World) (r : Rw) : Prop := r.l.length ≤ r.c ∧ r.c ≤ maxLen ∧ Rd w w.heap.size r.A (ints r.l)
/-- Rows that lie in memory. -/
def RdR (w : World) (B : Nat) (A : Option Addr) (rs : List Rw) : Prop := Rd w B A (rs.map Rw.v) ∧ ∀ r ∈ rs, Rd w B r.A (ints r.l)
theorem RdR.more {w : World} {B B' : Nat} {A : Option Addr} {rs : List Rw} (h : RdR w B A rs) (hB : B ≤ B') : RdR w B' A rs := ⟨h.1.more hB, fun r hr => (h.2 r hr).more hB⟩
theorem RdR.below {w w' : World} {B B' : Nat} {A : Option Addr} {rs : List Rw} (h : RdR w B A rs) (hb : Below B' w w') (hB : B ≤ B') : RdR w' B A rs := ⟨h.1.below hb hB, fun r hr => (h.2 r hr).below hb hB⟩
theorem RdR.up {w w' : World} {A : Option Addr} {rs : List Rw} (h : RdR w w.heap.size A rs) (hb : Below w.heap.size w w') : RdR w' w'.heap.size A rs := (h.below hb (Nat.le_refl _)).more hb.size
theorem Rd.up {w w' : World} {A : Option Addr} {xs : List Value} (h : Rd w w.heap.size A xs) (hb : Below w.heap.size w w') : Rd w' w'.heap.size A xs := (h.below hb (Nat.le_refl _)).more hb.size
theorem RdR.row {w : World} {B : Nat} {A : Option Addr} {rs : List Rw} (h : RdR w B A rs) (k : Nat) (hk : k < rs.length) :
    ∃ b o A' c l, A = some ⟨b, o, none⟩ ∧ Hid (rs[k]? = some ⟨A', c, l⟩) ∧ w.cell? ⟨b, o + k, none⟩ = some (.slice A' l.length c) ∧ Hid (Rd w B A' (ints l)) := by
  have hx : rs[k]? = some rs[k] := List.getElem?_eq_getElem hk
  obtain ⟨b, o, ha, _, hc⟩ := h.1.at_ (k := k) (u := rs[k].v) (by rw [List.getElem?_map, hx]; rfl)
  have hm := h.2 _ (List.getElem_mem hk)
  generalize rs[k] = r at *
  obtain ⟨A', c, l⟩ := r
  exact ⟨b, o, A', c, l, ha, Lib.hid hx, hc, Lib.hid hm⟩
/-- A game as it lies in memory. -/
structure Gv where
  A0 : Option Addr
  c0 : Nat
  own : List Int
  A1 : Option Addr
  c1 : Nat
  rs : List Rw
def Gv.cells (g : Gv) : List Value := [.slice g.A0 g.own.length g.c0, .slice g.A1 g.rs.length g.c1]
def Gv.v (g : Gv) : Value := .agg #[.slice g.A0 g.own.length g.c0, .slice g.A1 g.rs.length g.c1]
def Gv.G (g : Gv) : Gm := ⟨g.own, g.rs.map (·.l)⟩
structure RdG (w : World) (B : Nat) (g : Gv) : Prop where
  o : Rd w B g.A0 (ints g.own)
  r : RdR w B g.A1 g.rs
theorem RdG.more {w : World} {B B' : Nat} {g : Gv} (h : RdG w B g) (hB : B ≤ B') : RdG w B' g := ⟨h.o.more hB, h.r.more hB⟩
theorem RdG.below {w w' : World} {B B' : Nat} {g : Gv} (h : RdG w B g) (hb : Below B' w w') (hB : B ≤ B') : RdG w' B g := ⟨h.o.below hb hB, h.r.below hb hB⟩
theorem RdG.up {w w' : World} {g : Gv} (h : RdG w w.heap.size g) (hb : Below w.heap.size w w') : RdG w' w'.heap.size g := (h.below hb (Nat.le_refl _)).more hb.size
theorem row_of {g : Gv} {k c : Nat} {A : Option Addr} {l : List Int} (h : g.rs[k]? = some ⟨A, c, l⟩) : g.G.row k = l := row_at (by show (g.rs.map (·.l))[k]? = _; rw [List.getElem?_map, h]; rfl)
/-- What is known of the sizes of a game that came in. -/
structure Gfit (g : Gv) : Prop where
  n0 : g.own.length ≤ g.c0
  m0 : g.c0 ≤ maxLen
  n1 : g.rs.length ≤ g.c1
  m1 : g.c1 ≤ maxLen
  rs : ∀ r ∈ g.rs, r.l.length ≤ r.c ∧ r.c ≤ maxLen

/-! ### Opening -/
open Go.ChangeShapes Go.WideShapes Go.Deep Go.ChangeAt
section
variable {H : Type} {enc : TypeId × Value → H} {P : Program} {w : World}
theorem slice_of {α : Type} (cells : α → List Value) (Good : α → Prop) {t e : TypeId} {C n : Nat} {cs : List Value} {y : DataW H × List MemPlace} (ht : P.underlying t = some (.slice e)) (hC : P.cellsOf e = C) (hpos : 0 < C) (hlen : ∀ x, (cells x).length = C)
    (hrow : ∀ (n : Nat) (cs : List Value) (y : DataW H × List MemPlace), DataW.trod enc P w 0 (fun _ => true) true n e cs = some y → ∃ x, cs = cells x ∧ Good x)
    (hf : DataW.trod enc P w 0 (fun _ => true) true n t cs = some y) :
    ∃ (A : Option Addr) (c : Nat) (l : List α), cs = [.slice A (l.length : Nat) c] ∧ l.length ≤ c ∧ c ≤ maxLen ∧ Rd w w.heap.size A (l.flatMap cells) ∧ ∀ x ∈ l, Good x := by
  rcases open_slice ht hf with ⟨hcs, _⟩ | ⟨a, len', cap', m, n, D, Pl, hcs, _, hl, hm, hmm, _, hi⟩
  · exact ⟨none, 0, [], hcs, by simp, by simp [maxLen], .inl rfl, by simp⟩
  · simp only [if_true] at hmm
    have key : ∀ i, i < len' → ∃ x, Good x ∧ ∀ j u, (cells x)[j]? = some u → w.cell? (a.add (i * C + j)) = some u := by
      intro i him
      obtain ⟨cs', hc, ht'⟩ := hi i (by omega)
      rw [hC] at hc
      obtain ⟨_, hcl, hat⟩ := World.cells?_some hc
      obtain ⟨x, hx, hg⟩ := hrow _ _ _ ht'
      refine ⟨x, hg, fun j u hu => ?_⟩
      have hj : j < C := by rw [← hlen x]; exact (List.getElem?_eq_some_iff.1 hu).1
      rw [← Go.Deep.add_add, hat j hj, hx]
      exact hu
    obtain ⟨l, hll, hlr⟩ := list_of len' key
    refine ⟨some a, cap', l, by rw [hll]; exact hcs, by omega, hm, ?_, fun x hx => by
      obtain ⟨i, hi, he⟩ := List.getElem_of_mem hx
      exact (hlr i x (by rw [← he]; exact List.getElem?_eq_getElem hi)).1⟩
    by_cases h0 : l = []
    · subst h0
      exact .inl rfl
    · have hcell : ∀ i u, (l.flatMap cells)[i]? = some u → w.cell? (a.add i) = some u := by
        intro i u hu
        obtain ⟨k, x, j, hx, hj, he, hc⟩ := flat_inv hlen hu
        rw [he]
        exact (hlr k x hx).2 j u hc
      obtain ⟨b, off, spot⟩ := a
      have hfl : 0 < (l.flatMap cells).length := by
        rw [flat_length hlen]
        exact Nat.mul_pos (List.length_pos_iff.2 h0) hpos
      have hc0 := hcell 0 _ (List.getElem?_eq_getElem hfl)
      have hspot : spot = none := by simpa [Addr.add] using World.cell?_spot hc0
      subst hspot
      have hlt : b < w.heap.size := World.block_lt_of_cell? w _ (by simpa [Addr.add] using hc0)
      exact .inr ⟨b, off, rfl, hlt, fun i u hu => by rw [← Go.WideShapes.add_plain]; exact hcell i u hu⟩
theorem int_of {t e : TypeId} {n : Nat} {cs : List Value} {y : DataW H × List MemPlace} (ht : P.underlying t = some (.slice e)) (he : P.underlying e = some (.int .i64)) (hc : P.cellsOf e = 1) (hf : DataW.trod enc P w 0 (fun _ => true) true n t cs = some y) :
    ∃ A c l, cs = [.slice A (l.length : Nat) c] ∧ l.length ≤ c ∧ c ≤ maxLen ∧ Rd w w.heap.size A (ints l) := by
  rcases open_ints ht he hc hf with ⟨hcs, _⟩ | ⟨a, len', cap', zs, hcs, _, hl, hm, hz, _, hcell, hw⟩
  · exact ⟨none, 0, [], hcs, by simp, by simp [maxLen], .inl rfl⟩
  · simp only [if_true] at hz
    have e : (zs.take len').length = len' := by simp; omega
    exact ⟨some a, cap', zs.take len', by rw [e]; exact hcs, by omega, hm, rd_of_cells (by omega) hcell⟩
theorem gm_of {e ei ti tm : TypeId} {f0 f1 : Field} {n : Nat} {cs : List Value} {y : DataW H × List MemPlace} (he : P.underlying e = some (.struct #[f0, f1])) (t0 : f0.type = ti) (t1 : f1.type = tm) (o0 : f0.offset = 0) (o1 : f1.offset = 1) (c0 : P.cellsOf ti = 1) (c1 : P.cellsOf tm = 1)
    (hC : P.cellsOf e = 2) (hi : P.underlying ti = some (.slice ei)) (hm : P.underlying tm = some (.slice ti)) (hei : P.underlying ei = some (.int .i64)) (cei : P.cellsOf ei = 1) (h : DataW.trod enc P w 0 (fun _ => true) true n e cs = some y) : ∃ g : Gv, cs = g.cells ∧ Gfit g ∧ RdG w w.heap.size g := by
  obtain ⟨ys, n', _, _, hlen, hyl, hf⟩ := DataW.trod_struct he h
  rw [hC] at hlen
  match cs, hlen with
  | [v0, v1], _ =>
    match ys, hyl with
    | [y0, y1], _ =>
      have h0 := hf 0 f0 rfl
      have h1 := hf 1 f1 rfl
      rw [o0, t0, c0] at h0
      rw [o1, t1, c1] at h1
      obtain ⟨A0, cc0, own, e0, n0, m0, r0⟩ := int_of hi hei cei h0
      obtain ⟨A1, cc1, rs, e1, n1, m1, r1, g1⟩ := slice_of Rw.cells (Rw.good w) hm c0 (by decide) rwLen (fun n cs y hy => by
        obtain ⟨A, c, l, hcs, hl, hc, hr⟩ := int_of hi hei cei hy
        exact ⟨⟨A, c, l⟩, hcs, hl, hc, hr⟩) h1
      simp at e0 e1
      rw [rw_flat] at r1
      exact ⟨⟨A0, cc0, own, A1, cc1, rs⟩, by simp [Gv.cells, e0, e1], ⟨n0, m0, n1, m1, fun r hr => ⟨(g1 r hr).1, (g1 r hr).2.1⟩⟩, ⟨r0, r1, fun r hr => (g1 r hr).2.2⟩⟩
end
end Go.Proofs.Ytfmhanpibgmgfaa

/-
  Rows of numbers in memory: a slice of slices that can be read. No program in sight.
-/
import Derived.Test.YtegehfcnclpdeaaPnt
import Derived.Test.YtegehfcnclpdeaaPost
import Derived.Test.YtegehfcnclpdeaaGen
namespace Go.Proofs.Ytegehfcnclpdeaa
open Go.RowKit
set_option linter.unusedVariables false

/-- A row of weights as it lies in memory. -/
structure Rw where
  A : Option Addr
  c : Nat
  l : List Int
def Rw.v (r : Rw) : Value := .slice r.A r.l.length r.c
def Rw.cells (r : Rw) : List Value := [r.v]
theorem rwLen (r : Rw) : (Rw.cells r).length = 1 := rfl
theorem rw_flat (rs : List Rw) : rs.flatMap Rw.cells = rs.map Rw.v := by
  induction rs with
  | nil => rfl
  | cons r rs ih => rw [List.flatMap_cons, ih]; rfl
def Rw.good (w : World) (r : Rw) : Prop := r.l.length ≤ r.c ∧ r.c ≤ maxLen ∧ Rd w w.heap.size r.A (ints r.l)
/-- Rows that lie in memory. -/
def RdR (w : World) (B : Nat) (A : Option Addr) (rs : List Rw) : Prop := Rd w B A (rs.map Rw.v) ∧ ∀ r ∈ rs, Rd w B r.A (ints r.l)
theorem RdR.more {w : World} {B B' : Nat} {A : Option Addr} {rs : List Rw} (h : RdR w B A rs) (hB : B ≤ B') : RdR w B' A rs := ⟨h.1.more hB, fun r hr => (h.2 r hr).more hB⟩
theorem RdR.below {w w' : World} {B B' : Nat} {A : Option Addr} {rs : List Rw} (h : RdR w B A rs) (hb : Below B' w w') (hB : B ≤ B') : RdR w' B A rs := ⟨h.1.below hb hB, fun r hr => (h.2 r hr).below hb hB⟩
theorem RdR.up {w w' : World} {A : Option Addr} {rs : List Rw} (h : RdR w w.heap.size A rs) (hb : Below w.heap.size w w') : RdR w' w'.heap.size A rs := (h.below hb (Nat.le_refl _)).more hb.size
theorem Rd.up {w w' : World} {A : Option Addr} {xs : List Value} (h : Rd w w.heap.size A xs) (hb : Below w.heap.size w w') : Rd w' w'.heap.size A xs := (h.below hb (Nat.le_refl _)).more hb.size
theorem RdR.row {w : World} {B : Nat} {A : Option Addr} {rs : List Rw} (h : RdR w B A rs) (k : Nat) (hk : k < rs.length) :
    ∃ b o A' c l, A = some ⟨b, o, none⟩ ∧ Hid (rs[k]? = some ⟨A', c, l⟩) ∧ w.cell? ⟨b, o + k, none⟩ = some (.slice A' l.length c) ∧ Hid (Rd w B A' (ints l)) := by
  have hx : rs[k]? = some rs[k] := List.getElem?_eq_getElem hk
  obtain ⟨b, o, ha, _, hc⟩ := h.1.at_ (k := k) (u := rs[k].v) (by rw [List.getElem?_map, hx]; rfl)
  have hm := h.2 _ (List.getElem_mem hk)
  generalize rs[k] = r at *
  obtain ⟨A', c, l⟩ := r
  exact ⟨b, o, A', c, l, ha, Lib.hid hx, hc, Lib.hid hm⟩
end Go.Proofs.Ytegehfcnclpdeaa

/-
  The walk of the law WindArcs: it returns true. Condition: 'Tabs'.
-/
import Derived.Test.YtfokmgogbjifbaaWi9
import Derived.Test.YtfokmgogbjifbaaWi3
import Derived.Lib.QuietBelow
namespace Go.Proofs.Ytfokmgogbjifbaa
open Go.RowKit
set_option linter.unusedVariables false

theorem cell_set_far {w : World} {a p : Addr} {v : Value} (h : p.block ≠ a.block) : (w.setCell a v).cell? p = w.cell? p := by
  unfold World.cell?
  rw [heap_setCell_other _ _ _ _ h]
theorem Rd.fresh_set {w w0 : World} {B : Nat} {A : Option Addr} {xs : List Value} (h : Rd w B A xs) (hf : Fresh w0 A) {a : Addr} {v : Value} (ha : a.block < w0.heap.size) : Rd (w.setCell a v) B A xs := by
  rcases h with h0 | ⟨b, o, hA, hb, hc⟩
  · exact .inl h0
  · have := hf _ hA
    exact .inr ⟨b, o, hA, hb, fun i u hu => (cell_set_far (by simp only at this ⊢; omega)).trans (hc i u hu)⟩
theorem set_same {w : World} {p : Addr} {u v : Value} (h : w.cell? p = some u) : (w.setCell p v).cell? p = some v := World.cell?_setCell_same _ _ _ h
theorem set_next {w : World} {b : Nat} (i : Nat) (v : Value) : (w.setCell ⟨b, 0, none⟩ v).cell? ⟨b, i + 1, none⟩ = w.cell? ⟨b, i + 1, none⟩ := World.cell?_setCell_other _ _ _ _ (fun e => by injection e with _ e2; omega)
end Go.Proofs.Ytfokmgogbjifbaa

/-
  Proofs of pages in the reference: the walks of sides, Depth, proof, Proof; of Proof of the program; of SameInts. Condition: the lists can be read.
-/
import Derived.Test.YtoenecgjiejljaaDoorBt5
import Derived.Deep.RegionLaw
namespace Go.Proofs.YtoenecgjiejljaaDoor
open Go.RowKit
set_option linter.unusedVariables false

def bools (l : List Bool) : List Value := l.map Value.bool
theorem bools_one (l : List Bool) : ∀ u ∈ bools l, u.oneCell' = true := by
  intro u hu
  obtain ⟨d, _, rfl⟩ := List.mem_map.1 hu
  rfl
theorem bools_append (a b : List Bool) : bools (a ++ b) = bools a ++ bools b := by simp [bools]
theorem Rd.bool {w : World} {B : Nat} {A : Option Addr} {l : List Bool} (h : Rd w B A (bools l)) (k : Nat) (hk : k < l.length) :
    ∃ b o d, A = some ⟨b, o, none⟩ ∧ Hid (l[k]? = some d) ∧ w.cell? ⟨b, o + k, none⟩ = some (.bool d) := by
  obtain ⟨b, o, ha, _, hc⟩ := h.at_ (show (bools l)[k]? = some (.bool l[k]) by simp [bools, List.getElem?_eq_getElem hk])
  exact ⟨b, o, _, ha, (List.getElem?_eq_getElem hk : _), hc⟩
theorem eqI_next {a b : List Int} {k : Nat} {x y : Int} (hx : a[k]? = some x) (hy : b[k]? = some y) (h : a.take k = b.take k) (he : x = y) : a.take (k + 1) = b.take (k + 1) := by
  rw [List.take_add_one, List.take_add_one, hx, hy, h, he]
theorem eqI_bad {a b : List Int} {k : Nat} {x y : Int} (hx : a[k]? = some x) (hy : b[k]? = some y) (he : ¬ x = y) : decide (a = b) = false := decide_eq_false fun h => he (by
  rw [h, hy] at hx
  injection hx with hx
  exact hx.symm)
end Go.Proofs.YtoenecgjiejljaaDoor

/-
  Rows of any length, by a function of the place. No program in sight.
-/
import Derived.Test.YtoenecgjiejljaaDoorGen
import Derived.Laws.CopyOwn
namespace Go.Proofs.YtoenecgjiejljaaDoor
open Go.RowKit
set_option linter.unusedVariables false

def rowV (f : Nat → Value) (n : Nat) : Array Value := ((List.range n).map f).toArray
theorem rowV_at {f : Nat → Value} {n j : Nat} (h : j < n) : (rowV f n)[j]? = some (f j) := by simp [rowV, h]
theorem rowV_size (f : Nat → Value) (n : Nat) : (rowV f n).size = n := by simp [rowV]
theorem rowV_congr {f g : Nat → Value} {n : Nat} (h : ∀ j, j < n → f j = g j) : rowV f n = rowV g n := by
  unfold rowV
  congr 1
  exact List.map_congr_left fun j hj => by rw [h j (List.mem_range.1 hj)]
theorem rowV_set (f : Nat → Value) (n k : Nat) (v : Value) : (rowV f n).setIfInBounds k v = rowV (fun j => if j = k then v else f j) n := by
  unfold rowV
  rw [List.setIfInBounds_toArray]
  congr 1
  refine List.ext_getElem? fun j => ?_
  rw [List.getElem?_set]
  simp only [List.getElem?_map, List.length_map, List.length_range]
  by_cases hj : k = j
  · subst hj
    by_cases hk : k < n
    · rw [if_pos rfl, if_pos hk, List.getElem?_range hk]; simp
    · rw [if_pos rfl, if_neg hk, List.getElem?_eq_none (by simpa using hk)]; rfl
  · rw [if_neg hj]
    by_cases hjn : j < n
    · rw [List.getElem?_range hjn]; simp [Ne.symm hj]
    · rw [List.getElem?_eq_none (by simpa using hjn)]; rfl
def moV (g : Nat → Int) (j : Nat) : Value := .int .i64 (g j)
theorem moV_set {g g2 : Nat → Int} {N k : Nat} {v : Int} (h : ∀ j, j < N → g2 j = if j = k then v else g j) : (rowV (moV g) N).setIfInBounds k (.int .i64 v) = rowV (moV g2) N := by
  rw [rowV_set]
  refine rowV_congr fun j hj => ?_
  unfold moV
  rw [h j hj]
  by_cases e : j = k
  · rw [if_pos e, if_pos e]
  · rw [if_neg e, if_neg e]
theorem moV_congr {g g2 : Nat → Int} {N : Nat} (h : ∀ j, j < N → g2 j = g j) : rowV (moV g) N = rowV (moV g2) N := rowV_congr fun j hj => by unfold moV; rw [h j hj]
end Go.Proofs.YtoenecgjiejljaaDoor

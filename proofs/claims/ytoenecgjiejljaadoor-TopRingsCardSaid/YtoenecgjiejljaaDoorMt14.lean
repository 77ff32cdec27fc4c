/-
  Texts merged into one (Rwv, Rc3): contracts of the functions of package lure, what is reckoned of games. Conditions: as each says.
-/
import Derived.Test.YtoenecgjiejljaaDoorMt4
import Derived.Laws.CopyOwn
import Derived.Test.YtoenecgjiejljaaDoorMt13
namespace Go.Proofs.YtoenecgjiejljaaDoor
open Go.RowKit
set_option linter.unusedVariables false

def rowV (f : Nat → Value) (n : Nat) : Array Value := ((List.range n).map f).toArray
theorem rowV_at {f : Nat → Value} {n j : Nat} (h : j < n) : (rowV f n)[j]? = some (f j) := by simp [rowV, h]
theorem rowV_size (f : Nat → Value) (n : Nat) : (rowV f n).size = n := by simp [rowV]
theorem rowV_congr {f g : Nat → Value} {n : Nat} (h : ∀ j, j < n → f j = g j) : rowV f n = rowV g n := by
  unfold rowV
  congr 1
  exact List.map_congr_left fun j hj => by rw [h j (List.mem_range.1 hj)]
theorem rowV_set (f : Nat → Value) (n k : Nat) (v : Value) : (rowV f n).setIfInBounds k v = rowV (fun j => if j = k then v else f j) n := by
  unfold rowV
  rw [List.setIfInBounds_toArray]
  congr 1
  refine List.ext_getElem? fun j => ?_
  rw [List.getElem?_set]
  simp only [List.getElem?_map, List.length_map, List.length_range]
  by_cases hj : k = j
  · subst hj
    by_cases hk : k < n
    · rw [if_pos rfl, if_pos hk, List.getElem?_range hk]; simp
    · rw [if_pos rfl, if_neg hk, List.getElem?_eq_none (by simpa using hk)]; rfl
  · rw [if_neg hj]
    by_cases hjn : j < n
    · rw [List.getElem?_range hjn]; simp [Ne.symm hj]
    · rw [List.getElem?_eq_none (by simpa using hjn)]; rfl
def moV (g : Nat → Int) (j : Nat) : Value := .int .i64 (g j)
theorem moV_set {g g2 : Nat → Int} {N k : Nat} {v : Int} (h : ∀ j, j < N → g2 j = if j = k then v else g j) : (rowV (moV g) N).setIfInBounds k (.int .i64 v) = rowV (moV g2) N := by
  rw [rowV_set]
  refine rowV_congr fun j hj => ?_
  unfold moV
  rw [h j hj]
  by_cases e : j = k
  · rw [if_pos e, if_pos e]
  · rw [if_neg e, if_neg e]
theorem moV_congr {g g2 : Nat → Int} {N : Nat} (h : ∀ j, j < N → g2 j = g j) : rowV (moV g) N = rowV (moV g2) N := rowV_congr fun j hj => by unfold moV; rw [h j hj]
end Go.Proofs.YtoenecgjiejljaaDoor
namespace Go.Proofs.YtoenecgjiejljaaDoor
set_option linter.unusedVariables false

def inc (x : Int) (k : Nat) (g : Nat → Int) (s d t : Nat) : Int := if (x = (d : Int) ∨ x < 0) ∧ mulD s (turnN k d) = (t : Int) then g s else 0
def rowS (x : Int) (k : Nat) (g : Nat → Int) (s : Nat) : Nat → Nat → Int
  | 0, _ => 0
  | d + 1, t => rowS x k g s d t + inc x k g s d t
def allS (x : Int) (k : Nat) (g : Nat → Int) : Nat → Nat → Int
  | 0, _ => 0
  | s + 1, t => allS x k g s t + rowS x k g s 10 t
/-- What lies in 'next' when s rows and d digits of the next one are done. -/
def nxF (x : Int) (k : Nat) (g : Nat → Int) (s d t : Nat) : Int := allS x k g s t + rowS x k g s d t
theorem nxF_zero (x : Int) (k : Nat) (g : Nat → Int) (t : Nat) : nxF x k g 0 0 t = 0 := rfl
theorem nxF_row (x : Int) (k : Nat) (g : Nat → Int) (s t : Nat) : nxF x k g (s + 1) 0 t = nxF x k g s 10 t := by
  show allS x k g s t + rowS x k g s 10 t + 0 = _
  rw [Int.add_zero]; rfl
theorem nxF_no {x : Int} {k : Nat} {g : Nat → Int} {s d : Nat} (h : ¬ (x = (d : Int) ∨ x < 0)) (t : Nat) : nxF x k g s (d + 1) t = nxF x k g s d t := by
  unfold nxF
  show _ + (rowS x k g s d t + inc x k g s d t) = _
  unfold inc
  rw [if_neg fun e => h e.1, Int.add_zero]
theorem nxF_yes {x : Int} {k : Nat} {g : Nat → Int} {s d p : Nat} (h : x = (d : Int) ∨ x < 0) (hp : mulD s (turnN k d) = (p : Int)) (t : Nat) : nxF x k g s (d + 1) t = if t = p then nxF x k g s d p + g s else nxF x k g s d t := by
  unfold nxF
  show allS x k g s t + (rowS x k g s d t + inc x k g s d t) = _
  unfold inc
  rw [hp]
  by_cases e : t = p
  · subst e
    rw [if_pos rfl, if_pos ⟨h, rfl⟩, Int.add_assoc]
  · rw [if_neg e, if_neg (fun e2 => e (by omega)), Int.add_zero]
def cntU (x : Int) (k : Nat) (s : Nat) (t : Nat) (n : Nat) : Nat := ((List.range n).map fun d : Nat => if (x = (d : Int) ∨ x < 0) ∧ mulD s (turnN k d) = (t : Int) then 1 else 0).sum
theorem rowS_eq (x : Int) (k : Nat) (g : Nat → Int) (s t : Nat) : ∀ d, rowS x k g s d t = (cntU x k s t d : Int) * g s
  | 0 => by simp [rowS, cntU]
  | d + 1 => by
    have h : cntU x k s t (d + 1) = cntU x k s t d + if (x = (d : Int) ∨ x < 0) ∧ mulD s (turnN k d) = (t : Int) then 1 else 0 := by
      unfold cntU
      rw [List.range_succ, List.map_append, List.sum_append]
      simp
    rw [rowS, rowS_eq x k g s t d, h]
    unfold inc
    split
    · rw [Int.natCast_add, Int.add_mul]; simp
    · simp
theorem allS_eq (x : Int) (k : Nat) (g : Nat → Int) (f : Nat → Nat) (hg : ∀ s, s < 10 → g s = (f s : Int)) (t : Nat) : ∀ n, n ≤ 10 → allS x k g n t = ((((List.range n).map fun s : Nat => cnt x k s t * f s).sum : Nat) : Int)
  | 0, _ => by simp [allS]
  | n + 1, hn => by
    rw [allS, allS_eq x k g f hg t n (by omega), rowS_eq, hg n (by omega), List.range_succ, List.map_append, List.sum_append]
    have : cntU x k n t 10 = cnt x k n t := rfl
    rw [this]
    simp
/-- A round done. -/
theorem round_done {x : Int} {l : List Int} {g : Nat → Int} (hg : ∀ s, s < 10 → g s = (wyL l (s : Int) : Nat)) (t : Nat) : nxF x l.length g 10 0 t = ((wyL (x :: l) (t : Int) : Nat) : Int) := by
  unfold nxF
  rw [allS_eq x l.length g (fun s => wyL l (s : Int)) hg t 10 (Nat.le_refl _)]
  show _ + (0 : Int) = _
  rw [Int.add_zero]
  rfl
theorem wy_le {l : List Int} (hw : WDig l) (hl : l.length ≤ 6) {t : Nat} (ht : t < 10) : wyL l (t : Int) ≤ 1000000 := by
  obtain ⟨h1, h2⟩ := wy_closed l hw hl t ht
  by_cases h0 : nW l = 0
  · rw [h1 h0]; split <;> omega
  · rw [h2 h0]
    have : nW l ≤ 6 := Nat.le_trans (List.countP_le_length ..) hl
    calc 10 ^ (nW l - 1) ≤ 10 ^ 6 := Nat.pow_le_pow_right (by omega) (by omega)
      _ = 1000000 := by decide
theorem inc_nn {x : Int} {k : Nat} {g : Nat → Int} {s : Nat} (hg : 0 ≤ g s) (d t : Nat) : 0 ≤ inc x k g s d t := by unfold inc; split <;> omega
theorem rowS_mono {x : Int} {k : Nat} {g : Nat → Int} {s : Nat} (hg : 0 ≤ g s) (t : Nat) : ∀ d e, d ≤ e → rowS x k g s d t ≤ rowS x k g s e t
  | d, 0, h => by rw [show d = 0 by omega]; exact Int.le_refl _
  | d, e + 1, h => by
    rcases Nat.eq_or_lt_of_le h with rfl | h
    · exact Int.le_refl _
    · have := rowS_mono (x := x) (k := k) hg t d e (by omega)
      have := inc_nn (x := x) (k := k) hg e t
      show _ ≤ rowS x k g s e t + inc x k g s e t
      omega
theorem allS_mono {x : Int} {k : Nat} {g : Nat → Int} (hg : ∀ s, s < 10 → 0 ≤ g s) (t : Nat) : ∀ d e, d ≤ e → e ≤ 10 → allS x k g d t ≤ allS x k g e t
  | d, 0, h, _ => by rw [show d = 0 by omega]; exact Int.le_refl _
  | d, e + 1, h, h10 => by
    rcases Nat.eq_or_lt_of_le h with rfl | h
    · exact Int.le_refl _
    · have := allS_mono (x := x) (k := k) hg t d e (by omega) (by omega)
      have := rowS_mono (x := x) (k := k) (hg e (by omega)) t 0 10 (by omega)
      show _ ≤ allS x k g e t + rowS x k g e 10 t
      have h0 : rowS x k g e 0 t = 0 := rfl
      omega
/-- What lies there never passes what will. -/
theorem nxF_le {x : Int} {l : List Int} {g : Nat → Int} (hw : WDig (x :: l)) (hl : l.length < 6) (hg : ∀ s, s < 10 → g s = (wyL l (s : Int) : Nat)) {s d t : Nat} (hs : s < 10) (hd : d ≤ 10) (ht : t < 10) : 0 ≤ nxF x l.length g s d t ∧ nxF x l.length g s d t ≤ 1000000 := by
  have hp : ∀ s, s < 10 → 0 ≤ g s := fun s hs => by rw [hg s hs]; omega
  have h1 := round_done (x := x) hg t
  have h2 := wy_le hw (by simp; omega) ht
  have h3 := allS_mono (x := x) (k := l.length) hp t (s + 1) 10 (by omega) (by omega)
  have h4 := rowS_mono (x := x) (k := l.length) (hp s hs) t d 10 hd
  have h5 := allS_mono (x := x) (k := l.length) hp t 0 s (by omega) (by omega)
  have h6 := rowS_mono (x := x) (k := l.length) (hp s hs) t 0 d (by omega)
  have h7 : allS x l.length g (s + 1) t = allS x l.length g s t + rowS x l.length g s 10 t := rfl
  have h8 : allS x l.length g 0 t = 0 := rfl
  have h9 : rowS x l.length g s 0 t = 0 := rfl
  have h10 : nxF x l.length g 10 0 t = allS x l.length g 10 t + 0 := rfl
  unfold nxF
  omega
end Go.Proofs.YtoenecgjiejljaaDoor

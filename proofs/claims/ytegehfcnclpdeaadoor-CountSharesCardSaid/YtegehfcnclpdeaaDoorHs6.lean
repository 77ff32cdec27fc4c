/-
  Numbers of each day: the walks of daily, Alive, First, Lives. Condition: the list can be read.
-/
import Derived.Test.YtegehfcnclpdeaaDoorHs5
namespace Go.Proofs.YtegehfcnclpdeaaDoor
open Go.RowKit
set_option linter.unusedVariables false

theorem eInt : Elem Tryd.prog 61 3 (.int .i64 0) 1 8 := ⟨Tryd.underlying61, by kernel_rfl, rfl, by decide, by decide⟩
def rowZ (f : Nat → Nat) (n : Nat) : List Int := (List.range n).map fun p => (f p : Int)
theorem rowZ_len (f : Nat → Nat) (n : Nat) : (rowZ f n).length = n := by simp [rowZ]
theorem rowZ_at {f : Nat → Nat} {n j : Nat} (h : j < n) : (ints (rowZ f n)).toArray[j]? = some (.int .i64 (f j : Int)) := by simp [rowZ, ints, h]
theorem rowZ_congr {f g : Nat → Nat} {n : Nat} (h : ∀ j, j < n → f j = g j) : rowZ f n = rowZ g n := by
  unfold rowZ
  refine List.map_congr_left fun p hp => ?_
  rw [h p (List.mem_range.1 hp)]
theorem rowZ_set {f g : Nat → Nat} {n k : Nat} {x : Int} (hk : x = (g k : Int)) (hg : ∀ j, j ≠ k → g j = f j) : (ints (rowZ f n)).toArray.setIfInBounds k (.int .i64 x) = (ints (rowZ g n)).toArray := by
  rw [List.setIfInBounds_toArray]
  congr 1
  refine List.ext_getElem? fun j => ?_
  rw [List.getElem?_set]
  by_cases hj : j < n
  · have a1 := rowZ_at (f := f) hj
    have a2 := rowZ_at (f := g) hj
    rw [List.getElem?_toArray] at a1 a2
    rw [a1, a2]
    by_cases h : k = j
    · subst h
      rw [if_pos rfl, if_pos (by simp [rowZ, ints]; exact hj), hk]
    · rw [if_neg h, hg j fun e => h e.symm]
  · have e : ∀ f : Nat → Nat, (ints (rowZ f n))[j]? = none := fun f => by simp [rowZ, ints]; omega
    rw [e f, e g]
    split
    · rw [if_neg (by simp [rowZ, ints]; omega)]
    · rfl
theorem made_ints0 {w w1 : World} {n : Nat} (h : w1.ownsRow w.heap.size 3 1 (.slice (some ⟨w.heap.size, 0, none⟩) n n) n (madeCells (Value.int .i64 0).cells (n * 1)).toList) (hg : w.grownBy w1 none) :
    Below w.heap.size w w1 ∧ w1.heap[w.heap.size]? = some (.cells (ints (rowZ (fun _ => 0) n)).toArray 3 (0, 0)) := by
  refine ⟨(Below.refl _ _).grown hg (Nat.le_refl _) (by simp), ?_⟩
  have hcells : (madeCells (Value.int .i64 0).cells (n * 1)).toList = ints (rowZ (fun _ => 0) n) := by
    rw [Nat.mul_one]
    refine (toList_madeCells_one (.int .i64 0) n).trans ?_
    refine List.ext_getElem? fun j => ?_
    by_cases h : j < n
    · simp [rowZ, ints, h]
    · simp [rowZ, ints, h]
  rw [← hcells]
  exact own_full h
theorem grown_set1 (w : World) (b i : Nat) (u : Value) : w.grownBy (w.setCell ⟨b, i, none⟩ u) (some b) :=
  ⟨rfl, rfl, rfl, by simp [World.setCell], fun k hk hne => by
    have : k ≠ b := fun e => hne (by rw [e])
    simp [World.setCell, Array.getElem?_modify, Ne.symm this]⟩
/-- The numbers of the first j days, 0 for the rest. -/
def upTo (F : Nat → Nat) (j p : Nat) : Nat := if p < j then F p else 0
theorem upTo_step {F : Nat → Nat} {j p : Nat} (hp : p ≠ j) : upTo F (j + 1) p = upTo F j p := by
  unfold upTo
  by_cases h : p < j
  · rw [if_pos h, if_pos (by omega)]
  · rw [if_neg h, if_neg (by omega)]
def dayL (P : ByteArray → Nat → Bool) (C : List ByteArray) : List Int := if vhE C = 0 then rowZ (fun d => cnt (P · d) C C.length) (D0 C) else []
theorem vh_bird {C : List ByteArray} (h : vhE C = 0) : C.length ≤ 60 ∧ ∀ s ∈ C, s.size ≤ 8 ∧ s.size = D0 C ∧ bitsB s = true ∧ oneB s = true := by
  unfold vhE at h
  split at h
  · cases h
  · refine ⟨by omega, fun s hs => ?_⟩
    have hb := okH_of h s hs
    unfold birdE at hb
    split at hb
    · cases hb
    · split at hb
      · cases hb
      · rename_i h1 h2
        split at hb
        · cases hb
        · rename_i h3
          refine ⟨by omega, ?_, ?_, ?_⟩
          · rcases Nat.decEq s.size (D0 C) with h4 | h4
            · exact absurd (.inl h4) h2
            · exact h4
          · cases hb2 : bitsB s
            · exact absurd (.inr hb2) h2
            · rfl
          · cases ho : oneB s
            · exact absurd ho h3
            · rfl
theorem D0_le {C : List ByteArray} (h : vhE C = 0) : D0 C ≤ 8 := by
  cases C with
  | nil => exact Nat.zero_le _
  | cons s r => exact ((vh_bird h).2 s (by simp)).1
theorem cgF {C : List ByteArray} (h : vhE C = 0) (d : Nat) (hd : d < D0 C) : IsF 14 hitB C d := fun s hs w => isCaught_any s d (by have := ((vh_bird h).2 s hs).2.1; omega) (by have := ((vh_bird h).2 s hs).1; omega) w
def DayPost (P : ByteArray → Nat → Bool) (C : List ByteArray) (w : World) (e : Ending) (w' : World) : Prop := ∃ A' c', e = .returned (.tuple #[.slice A' (dayL P C).length c', .int .i64 (vhE C)]) ∧ Rd w' w'.heap.size A' (ints (dayL P C)) ∧ Below w.heap.size w w'
end Go.Proofs.YtegehfcnclpdeaaDoor

/-
  Too many histories: the walk of Many; the two laws' sums. Condition: the list can be read.
-/
import Derived.Test.YtegehfcnclpdeabDoorHsd
import Derived.Test.YtegehfcnclpdeabDoorCc6
import Derived.Test.YtegehfcnclpdeabDoorCc9
namespace Go.Proofs.YtegehfcnclpdeabDoor
open Go.RowKit
set_option linter.unusedVariables false

theorem Rd.upH {w w' : World} {A : Option Addr} {xs : List Value} (h : Rd w w.heap.size A xs) (hb : Below w.heap.size w w') : Rd w' w'.heap.size A xs := (h.below hb (Nat.le_refl _)).more hb.size
def BoolRet (e : Ending) : Prop := ∃ q, e = .returned (.bool q)
theorem sm_le {F : Nat → Nat} {c n : Nat} (h : ∀ i, i < n → F i ≤ c) : ∀ k, k ≤ n → sm F k ≤ c * k
  | 0, _ => Nat.zero_le _
  | k + 1, hk => by
    have h1 := sm_le h k (by omega)
    have h2 := h k (by omega)
    show sm F k + F k ≤ c * (k + 1)
    rw [Nat.mul_succ]
    omega
theorem lives_rows {C : List ByteArray} : ∃ F n G m, dayL avB C = rowZ F n ∧ livL C = rowZ G m ∧ sm F n = sm G m ∧ n ≤ 8 ∧ m ≤ 60 ∧ (∀ i, i < n → F i ≤ 60) ∧ (∀ i, i < m → G i ≤ 8) := by
  by_cases hv : vhE C = 0
  · have hb := vh_bird hv
    refine ⟨_, _, _, _, if_pos hv, if_pos hv, alive_sum hv _ (Nat.le_refl _), D0_le hv, hb.1, fun i _ => Nat.le_trans (cnt_le _ _ _) hb.1, fun i hi => ?_⟩
    have hq : C[i]? = some C[i] := List.getElem?_eq_getElem hi
    have hm := hb.2 C[i] (List.getElem_mem hi)
    obtain ⟨f, l, ef, el, hfl, hls, _, _, _, _, en⟩ := lv_one hm.2.2.2
    have e1 : lvAt C i = l - f + 1 := by
      unfold lvAt
      rw [List.getD_eq_getElem?_getD, hq]
      exact en
    rw [e1]
    have := hm.1
    omega
  · exact ⟨fun _ => 0, 0, fun _ => 0, 0, if_neg hv, if_neg hv, rfl, by omega, by omega, fun _ h => by omega, fun _ h => by omega⟩
theorem row_at {F : Nat → Nat} {n k : Nat} (h : k < n) : (rowZ F n)[k]? = some (F k : Int) := by simp [rowZ, h]
end Go.Proofs.YtegehfcnclpdeabDoor

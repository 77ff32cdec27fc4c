/-
  The walk of Best of the reference. No condition.
-/
import Derived.Test.YtfokmgogbjifbaaWi15
import Derived.Deep.RegionWith
import Derived.Deep.RegionHeld3
namespace Go.Proofs.Ytfokmgogbjifbaa
open Go.RowKit
set_option linter.unusedVariables false

theorem ra_of {w : World} {g : Nat} {L : List Int} {t : TypeId} (h : w.heap[g]? = some (.cells (rv L) t (0, 0))) : w.rangeAt g 0 (ints L) := fun j v hv => by
  rw [Nat.zero_add, blk_cell h]
  unfold rv
  rw [List.getElem?_toArray]
  exact hv
theorem size_ints {L : List Int} (h : Rose L) : (Try.prog.info? 62).map (·.size) = some (ints L).length := by
  unfold Rose at h
  rw [ints_length, h]
  exact Try.sizeRose
theorem bK_yes {L : List Int} {v : Int} {k : Nat} (h : roS ⟨(bK L v k : Nat), v⟩ L < roS ⟨((k + 1 : Nat) : Int), v⟩ L) : bK L v (k + 1) = k + 1 := by rw [bK, if_pos h]
theorem bK_no {L : List Int} {v : Int} {k : Nat} (h : ¬ roS ⟨(bK L v k : Nat), v⟩ L < roS ⟨((k + 1 : Nat) : Int), v⟩ L) : bK L v (k + 1) = bK L v k := by rw [bK, if_neg h]
theorem bK_yes' {L : List Int} {v : Int} {p : Nat} (hp : 1 ≤ p) (h : roS ⟨(bK L v (p - 1) : Nat), v⟩ L < roS ⟨(p : Int), v⟩ L) : bK L v p = p := by
  obtain ⟨k, rfl⟩ : ∃ k, p = k + 1 := ⟨p - 1, by omega⟩
  exact bK_yes h
theorem bK_no' {L : List Int} {v : Int} {p : Nat} (hp : 1 ≤ p) (h : ¬ roS ⟨(bK L v (p - 1) : Nat), v⟩ L < roS ⟨(p : Int), v⟩ L) : bK L v p = bK L v (p - 1) := by
  obtain ⟨k, rfl⟩ : ∃ k, p = k + 1 := ⟨p - 1, by omega⟩
  exact bK_no h
end Go.Proofs.Ytfokmgogbjifbaa

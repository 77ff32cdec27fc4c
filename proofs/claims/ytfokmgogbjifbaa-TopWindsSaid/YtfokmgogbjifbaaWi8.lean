/-
  The walks of Arcs of package wind and of the reference, of SameArcs. No condition.
-/
import Derived.Test.YtfokmgogbjifbaaWi7
namespace Go.Proofs.Ytfokmgogbjifbaa
open Go.RowKit
set_option linter.unusedVariables false

def arcsV (n : Int) : List Pt := if setB n then arcsL n.toNat else []
theorem listB_start {x : Nat} (hx : x < 4294967296) : listB (startN x).testBit = listB (startB x) := listK_congr fun j hj => startN_test hx hj
theorem starts_print {x : Nat} (hx : x < 4294967296) : bits .andNot .u32 (x : Int) ((rotN x (byN 1) : Nat) : Int) = ((startN x : Nat) : Int) := by
  have e : byN 1 = 1 := by decide
  rw [e, u32_andNot_nat x _ hx (rot_lt hx)]
  rfl
theorem take_arcs {x k p : Nat} (h : (listB (startB x))[k]? = some (p : Int)) : ((arcsN x).take (k + 1)).flatMap Pt.cells = ((arcsN x).take k).flatMap Pt.cells ++ [.int .i64 p, .int .i64 (runN x p : Nat)] := by
  have e : (arcsN x)[k]? = some ⟨p, (runN x p : Nat)⟩ := by
    unfold arcsN
    rw [List.getElem?_map, h]
    simp
  rw [List.take_add_one, e, List.flatMap_append]
  rfl
theorem pt_one (a b : Int) : ∀ u ∈ [Value.int .i64 a, Value.int .i64 b], u.oneCell' = true := by
  intro u hu
  simp at hu
  rcases hu with rfl | rfl <;> rfl
theorem Rd.two (w : World) (u v : Value) (e : TypeId) : Rd (w.alloc (.cells #[u, v] e)) (w.alloc (.cells #[u, v] e)).heap.size (some ⟨w.heap.size, 0, none⟩) [u, v] := Rd.of_block (heap_alloc_new w _)
end Go.Proofs.Ytfokmgogbjifbaa

/-
  Helpers of the walks: boxes, blocks, rows that are read. No program in sight.
-/
import Derived.Test.YtoenecgjiejljaaDoorPnt
namespace Go.Proofs.YtoenecgjiejljaaDoor
open Go.RowKit
set_option linter.unusedVariables false

theorem cell_up {w : World} {o : Obj} {p : Addr} {u : Value} (h : w.cell? p = some u) : (w.alloc o).cell? p = some u := by
  rw [World.cell?_alloc_lt w o p (World.block_lt_of_cell? w p h)]
  exact h
theorem Rd.of_block {w : World} {g : Nat} {e : TypeId} {xs : List Value} (h : w.heap[g]? = some (.cells xs.toArray e (0, 0))) : Rd w w.heap.size (some ⟨g, 0, none⟩) xs :=
  .inr ⟨g, 0, rfl, lt_of_block h, fun i u hu => by simp [World.cell?, h, hu]⟩
theorem Rd.lit (w : World) (cs : List Value) (e : TypeId) : Rd (w.alloc (.cells cs.toArray e)) (w.alloc (.cells cs.toArray e)).heap.size (some ⟨w.heap.size, 0, none⟩) cs :=
  Rd.of_block (heap_alloc_new w _)
theorem one_pt (w : World) (v0 v1 : Value) (t : TypeId) : ∃ W, w.alloc (.cells #[v0, v1] t) = W ∧ W.cell? ⟨w.heap.size, 0, none⟩ = some v0 ∧ W.cell? ⟨w.heap.size, 1, none⟩ = some v1 ∧ w.heap.size < W.heap.size ∧ Below w.heap.size w W := by
  have h := heap_alloc_new w (.cells #[v0, v1] t)
  refine ⟨_, rfl, ?_, ?_, by simp, (Below.refl _ _).alloc (Nat.le_refl _) _⟩ <;> rw [cell_of_row _ _ _ _ _ _ h] <;> rfl
theorem pt_keep {W w1 : World} {n : Nat} {v0 v1 : Value} (h : W.cell? ⟨n, 0, none⟩ = some v0 ∧ W.cell? ⟨n, 1, none⟩ = some v1 ∧ n < W.heap.size) (hb : Below W.heap.size W w1) :
    w1.cell? ⟨n, 0, none⟩ = some v0 ∧ w1.cell? ⟨n, 1, none⟩ = some v1 := by
  obtain ⟨h0, h1, hn⟩ := h
  have k := fun o => hb.cell (p := ⟨n, o, none⟩) hn
  exact ⟨(k 0).trans h0, (k 1).trans h1⟩
theorem own_below {w w' : World} {base n : Nat} {e : TypeId} {size : Nat} {v : Value} {xs : List Value} (h : w.ownsRow base e size v n xs) (hb : Below w.heap.size w w') : w'.ownsRow base e size v n xs := by
  refine ⟨h.1, ?_⟩
  rcases h.2 with h1 | ⟨g, cap, cur, hv, hbg, hg, rest⟩
  · exact .inl h1
  · exact .inr ⟨g, cap, cur, hv, hbg, (hb.block g (lt_of_block hg)).trans hg, rest⟩
theorem own_full {w : World} {base g n : Nat} {e : TypeId} {xs : List Value} (h : w.ownsRow base e 1 (.slice (some ⟨g, 0, none⟩) n n) n xs) : w.heap[g]? = some (.cells xs.toArray e (0, 0)) := by
  rcases h.2 with ⟨hv, _⟩ | ⟨g', cap, cur, hv, _, hg, _, _, hcs, htake⟩
  · cases hv
  · injection hv with h1 h2 h3
    injection h1 with h1
    injection h1 with h1
    subst h1; subst h3
    have : cur.toList = xs := by rw [← htake, List.take_of_length_le (by simp [hcs])]
    rw [← this]
    simpa using hg
theorem blk_set {w : World} {g : Nat} {t : TypeId} {cs : Array Value} (h : w.heap[g]? = some (.cells cs t (0, 0))) (i : Nat) (u : Value) : (w.setCell ⟨g, i, none⟩ u).heap[g]? = some (.cells (cs.setIfInBounds i u) t (0, 0)) := by
  simp [World.setCell, Array.getElem?_modify, h]
theorem blk_free {w : World} {g : Nat} {t : TypeId} {cs : Array Value} (h : w.heap[g]? = some (.cells cs t (0, 0))) (i : Nat) : w.frozen? ⟨g, i, none⟩ = false := by
  simp [World.frozen?, h]
theorem copy_from {w : World} {B g off : Nat} {A : Option Addr} {cs : List Value} (h : Rd w B A cs) :
    0 < cs.length → some (⟨g, off, none⟩ : Addr) = some ⟨g, off, none⟩ ∧ ∃ ad, A = some ad ∧ ∀ j v, cs[j]? = some v → w.cell? (ad.add j) = some v := by
  intro hp
  refine ⟨rfl, ?_⟩
  rcases h with h0 | ⟨b, o, ha, _, hc⟩
  · rw [h0] at hp; simp at hp
  · exact ⟨_, ha, fun j v hv => by rw [Go.WideShapes.add_plain]; exact hc j v hv⟩
theorem Rd.pt {w : World} {B : Nat} {A : Option Addr} {l : List Pt} (h : Rd w B A (l.flatMap Pt.cells)) (k : Nat) (hk : k < l.length) :
    ∃ b o p, A = some ⟨b, o, none⟩ ∧ Hid (l[k]? = some p) ∧ w.cell? ⟨b, o + k * 2, none⟩ = some (.int .i64 p.x) ∧ w.cell? ⟨b, o + k * 2 + 1, none⟩ = some (.int .i64 p.y) := by
  obtain ⟨b, o, p, ha, _, hx, hc⟩ := h.rec ptLen (by decide) k hk
  exact ⟨b, o, p, ha, hx, hc 0 _ rfl, hc 1 _ rfl⟩
/-- A block that a box of many cells makes. -/
theorem one_blk (w : World) (cs : Array Value) (t : TypeId) : ∃ W, w.alloc (.cells cs t) = W ∧ W.heap[w.heap.size]? = some (.cells cs t (0, 0)) ∧ w.heap.size < W.heap.size ∧ Below w.heap.size w W :=
  ⟨_, rfl, heap_alloc_new w _, by simp, (Below.refl _ _).alloc (Nat.le_refl _) _⟩
theorem blk_cell {w : World} {g j : Nat} {cs : Array Value} {t : TypeId} (h : w.heap[g]? = some (.cells cs t (0, 0))) : w.cell? ⟨g, j, none⟩ = cs[j]? := cell_of_row w g j cs t _ h
end Go.Proofs.YtoenecgjiejljaaDoor

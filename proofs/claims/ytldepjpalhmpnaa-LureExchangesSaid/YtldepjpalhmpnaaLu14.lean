/-
  The walks of known and Large of the laws of package lure. No condition (Large: the game can be read).
-/
import Derived.Test.YtldepjpalhmpnaaLu13
namespace Go.Proofs.Ytldepjpalhmpnaa
open Go.RowKit
set_option linter.unusedVariables false

theorem Rd.alloc_up {w : World} {A : Option Addr} {xs : List Value} (h : Rd w w.heap.size A xs) (o : Obj) : Rd (w.alloc o) (w.alloc o).heap.size A xs := h.up ((Below.refl _ w).alloc (Nat.le_refl _) o)
def allocs (w : World) (os : List Obj) : World := os.foldl World.alloc w
theorem allocs_below : ∀ (os : List Obj) (w : World), Below w.heap.size w (allocs w os)
  | [], w => Below.refl _ _
  | o :: os, w => by
    have h := allocs_below os (w.alloc o)
    exact ((Below.refl _ w).alloc (Nat.le_refl _) o).trans (h.mono (by simp))
theorem allocs_at : ∀ (os : List Obj) (w : World) (i : Nat) (o : Obj), os[i]? = some o → (allocs w os).heap[w.heap.size + i]? = some o
  | [], w, i, o, h => by simp at h
  | x :: os, w, 0, o, h => by
    simp at h
    subst h
    have h1 := heap_alloc_new w x
    have h2 := (allocs_below os (w.alloc x)).block w.heap.size (by simp)
    exact h2.trans h1
  | x :: os, w, i + 1, o, h => by
    have h1 := allocs_at os (w.alloc x) i o (by simpa using h)
    have e : (w.alloc x).heap.size + i = w.heap.size + (i + 1) := by simp; omega
    rw [e] at h1
    exact h1
/-- The game of the first example, as known lays it from block a on. -/
def kg1 (a : Nat) : Gv := ⟨some ⟨a, 0, none⟩, 4, [0, 1, 1, 0], some ⟨a + 5, 0, none⟩, 4, [⟨some ⟨a + 1, 0, none⟩, 2, [1, 2]⟩, ⟨some ⟨a + 2, 0, none⟩, 2, [0, 3]⟩, ⟨some ⟨a + 3, 0, none⟩, 1, [3]⟩, ⟨some ⟨a + 4, 0, none⟩, 1, [3]⟩]⟩
def kg2 (a b : Nat) : Gv := ⟨some ⟨a, 0, none⟩, 4, [0, 1, 1, 0], some ⟨a + 5, 0, none⟩, 4, [⟨some ⟨b, 0, none⟩, 1, [1]⟩, ⟨some ⟨a + 2, 0, none⟩, 2, [0, 3]⟩, ⟨some ⟨a + 3, 0, none⟩, 1, [3]⟩, ⟨some ⟨a + 4, 0, none⟩, 1, [3]⟩]⟩
theorem kfit1 (a : Nat) : Gfit (kg1 a) := ⟨Nat.le_refl 4, (by decide : 4 ≤ maxLen), Nat.le_refl 4, (by decide : 4 ≤ maxLen), fun r hr => by
  simp [kg1] at hr
  rcases hr with rfl | rfl | rfl | rfl <;> exact ⟨by simp, by simp [maxLen]⟩⟩
theorem kfit2 (a b : Nat) : Gfit (kg2 a b) := ⟨Nat.le_refl 4, (by decide : 4 ≤ maxLen), Nat.le_refl 4, (by decide : 4 ≤ maxLen), fun r hr => by
  simp [kg2] at hr
  rcases hr with rfl | rfl | rfl | rfl <;> exact ⟨by simp, by simp [maxLen]⟩⟩
def kObjs (a : Nat) : List Obj := [.cells #[.int .i64 0, .int .i64 1, .int .i64 1, .int .i64 0] 3, .cells #[.int .i64 1, .int .i64 2] 3, .cells #[.int .i64 0, .int .i64 3] 3, .cells #[.int .i64 3] 3, .cells #[.int .i64 3] 3,
  .cells #[.slice (some ⟨a + 1, 0, none⟩) 2 2, .slice (some ⟨a + 2, 0, none⟩) 2 2, .slice (some ⟨a + 3, 0, none⟩) 1 1, .slice (some ⟨a + 4, 0, none⟩) 1 1] 22,
  .cells #[.slice (some ⟨a, 0, none⟩) 4 4, .slice (some ⟨a + 5, 0, none⟩) 4 4] 25, .cells #[.int .i64 3] 3]
/-- What lies where, behind the laying. -/
structure KW (a : Nat) (W : World) : Prop where
  b0 : W.heap[a]? = some (.cells #[.int .i64 0, .int .i64 1, .int .i64 1, .int .i64 0] 3 (0, 0))
  b1 : W.heap[a + 1]? = some (.cells #[.int .i64 1, .int .i64 2] 3 (0, 0))
  b2 : W.heap[a + 2]? = some (.cells #[.int .i64 0, .int .i64 3] 3 (0, 0))
  b3 : W.heap[a + 3]? = some (.cells #[.int .i64 3] 3 (0, 0))
  b4 : W.heap[a + 4]? = some (.cells #[.int .i64 3] 3 (0, 0))
  b5 : W.heap[a + 5]? = some (.cells #[.slice (some ⟨a + 1, 0, none⟩) 2 2, .slice (some ⟨a + 2, 0, none⟩) 2 2, .slice (some ⟨a + 3, 0, none⟩) 1 1, .slice (some ⟨a + 4, 0, none⟩) 1 1] 22 (0, 0))
  b6 : W.heap[a + 6]? = some (.cells #[.slice (some ⟨a, 0, none⟩) 4 4, .slice (some ⟨a + 5, 0, none⟩) 4 4] 25 (0, 0))
theorem KW.up {a : Nat} {W W' : World} (h : KW a W) (hb : Below W.heap.size W W') : KW a W' :=
  ⟨(hb.block _ (lt_of_block h.b0)).trans h.b0, (hb.block _ (lt_of_block h.b1)).trans h.b1, (hb.block _ (lt_of_block h.b2)).trans h.b2, (hb.block _ (lt_of_block h.b3)).trans h.b3, (hb.block _ (lt_of_block h.b4)).trans h.b4, (hb.block _ (lt_of_block h.b5)).trans h.b5, (hb.block _ (lt_of_block h.b6)).trans h.b6⟩
theorem KW.game {a : Nat} {W : World} (h : KW a W) : RdG W W.heap.size (kg1 a) :=
  ⟨Rd.of_block h.b0, Rd.of_block h.b5, fun r hr => by
    simp [kg1] at hr
    rcases hr with rfl | rfl | rfl | rfl
    · exact Rd.of_block h.b1
    · exact Rd.of_block h.b2
    · exact Rd.of_block h.b3
    · exact Rd.of_block h.b4⟩
theorem kworld (w : World) : ∃ W, allocs w (kObjs w.heap.size) = W ∧ KW w.heap.size W ∧ Rd W W.heap.size (some ⟨w.heap.size + 7, 0, none⟩) (ints [3]) ∧ Below w.heap.size w W ∧ W.heap.size = w.heap.size + 8 := by
  have hat := fun i o h => allocs_at (kObjs w.heap.size) w i o h
  refine ⟨_, rfl, ⟨hat 0 _ rfl, hat 1 _ rfl, hat 2 _ rfl, hat 3 _ rfl, hat 4 _ rfl, hat 5 _ rfl, hat 6 _ rfl⟩, Rd.of_block (hat 7 _ rfl), allocs_below _ _, ?_⟩
  simp [allocs, kObjs]
theorem cell_heap {w w' : World} {b o : Nat} (h : w'.heap[b]? = w.heap[b]?) : w'.cell? ⟨b, o, none⟩ = w.cell? ⟨b, o, none⟩ := by
  unfold World.cell?
  simp only [h]
/-- The first row of moves is another one. -/
structure KW2 (a : Nat) (w W1 W2 W : World) : Prop where
  e1 : w.alloc (.cells #[.int .i64 1] 3) = W1
  e2 : W1.setCell ⟨a + 5, 0, none⟩ (.slice (some ⟨w.heap.size, 0, none⟩) 1 1) = W2
  e3 : W2.alloc (.cells #[.int .i64 3] 3) = W
  c1 : W1.cell? ⟨a + 5, 0, none⟩ = some (.slice (some ⟨a + 1, 0, none⟩) 2 2)
  f1 : W1.frozen? ⟨a + 5, 0, none⟩ = false
  d0 : W2.cell? ⟨a + 6, 0, none⟩ = some (.slice (some ⟨a, 0, none⟩) 4 4)
  d1 : W2.cell? ⟨a + 6, 1, none⟩ = some (.slice (some ⟨a + 5, 0, none⟩) 4 4)
  g : RdG W W.heap.size (kg2 a w.heap.size)
  r : Rd W W.heap.size (some ⟨w.heap.size + 1, 0, none⟩) (ints [3])
  b : Below a w W
  s : W.heap.size = w.heap.size + 2
  s2 : W2.heap.size = w.heap.size + 1
  k : ∀ b, b < w.heap.size → b ≠ a + 5 → W.heap[b]? = w.heap[b]?
theorem kworld2 {a : Nat} {w : World} (h : KW a w) (ha : a + 8 ≤ w.heap.size) : ∃ W1 W2 W, KW2 a w W1 W2 W := by
  obtain ⟨W1, e1⟩ : ∃ W1, w.alloc (.cells #[.int .i64 1] 3) = W1 := ⟨_, rfl⟩
  have k1 := heap_alloc_new w (.cells #[.int .i64 1] 3)
  have hb1 : Below w.heap.size w (w.alloc (.cells #[.int .i64 1] 3)) := (Below.refl _ _).alloc (Nat.le_refl _) _
  have s1 : (w.alloc (.cells #[.int .i64 1] 3)).heap.size = w.heap.size + 1 := by simp
  rw [e1] at k1 hb1 s1
  have H1 := h.up hb1
  obtain ⟨W2, e2⟩ : ∃ W2, W1.setCell ⟨a + 5, 0, none⟩ (.slice (some ⟨w.heap.size, 0, none⟩) 1 1) = W2 := ⟨_, rfl⟩
  have s2 : W2.heap.size = W1.heap.size := by rw [← e2]; simp [World.setCell]
  have k5 : W2.heap[a + 5]? = some (.cells #[.slice (some ⟨w.heap.size, 0, none⟩) 1 1, .slice (some ⟨a + 2, 0, none⟩) 2 2, .slice (some ⟨a + 3, 0, none⟩) 1 1, .slice (some ⟨a + 4, 0, none⟩) 1 1] 22 (0, 0)) := by
    rw [← e2, blk_set H1.b5]; rfl
  have kf : ∀ b, b ≠ a + 5 → W2.heap[b]? = W1.heap[b]? := fun b hb => by rw [← e2]; exact heap_set_far hb _ _
  have hb2 : Below a w W2 := by rw [← e2]; exact Below.setCell (hb1.mono (by omega)) (by simp) _
  have hb3 : Below W2.heap.size W2 (W2.alloc (.cells #[.int .i64 3] 3)) := (Below.refl _ _).alloc (Nat.le_refl _) _
  have k7 := heap_alloc_new W2 (.cells #[.int .i64 3] 3)
  have up : ∀ b o, W2.heap[b]? = some o → (W2.alloc (.cells #[.int .i64 3] 3)).heap[b]? = some o := fun b o hbo => (hb3.block b (lt_of_block hbo)).trans hbo
  have k6 := (kf (a + 6) (by omega)).trans H1.b6
  refine ⟨W1, W2, _, e1, e2, rfl, by rw [blk_cell H1.b5]; rfl, blk_free H1.b5 0, by rw [blk_cell k6]; rfl, by rw [blk_cell k6]; rfl, ⟨Rd.of_block (up _ _ ((kf a (by omega)).trans H1.b0)), Rd.of_block (up _ _ k5), fun r hr => ?_⟩, ?_, hb2.trans (hb3.mono (by omega)), by simp; omega, by omega, fun b hb hne => (hb3.block b (by omega)).trans ((kf b hne).trans (hb1.block b hb))⟩
  · simp [kg2] at hr
    rcases hr with rfl | rfl | rfl | rfl
    · exact Rd.of_block (up _ _ ((kf _ (by omega)).trans k1))
    · exact Rd.of_block (up _ _ ((kf _ (by omega)).trans H1.b2))
    · exact Rd.of_block (up _ _ ((kf _ (by omega)).trans H1.b3))
    · exact Rd.of_block (up _ _ ((kf _ (by omega)).trans H1.b4))
  · rw [s2, s1] at k7
    exact Rd.of_block k7
theorem kn1 (a : Nat) : ranL (kg1 a).G [3] = [2, 3, 1, 0] := by
  have : (kg1 a).G = (kg1 0).G := rfl
  rw [this]
  decide +kernel
theorem ke1 (a : Nat) : askE (kg1 a).G [3] = 0 := by
  have : (kg1 a).G = (kg1 0).G := rfl
  rw [this]
  decide +kernel
theorem kn2 (a b : Nat) : freL (kg2 a b).G [3] = [0, 1] := by
  have : (kg2 a b).G = (kg2 0 0).G := rfl
  rw [this]
  decide +kernel
theorem ke2 (a b : Nat) : askE (kg2 a b).G [3] = 0 := by
  have : (kg2 a b).G = (kg2 0 0).G := rfl
  rw [this]
  decide +kernel
end Go.Proofs.Ytldepjpalhmpnaa

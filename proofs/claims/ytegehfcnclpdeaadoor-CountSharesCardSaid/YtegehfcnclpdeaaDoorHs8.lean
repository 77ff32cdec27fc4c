/-
  The catch of each day: the walk of Catches. Condition: the list can be read.
-/
import Derived.Test.YtegehfcnclpdeaaDoorHs7
namespace Go.Proofs.YtegehfcnclpdeaaDoor
open Go.RowKit
set_option linter.unusedVariables false

theorem made_zero3 (n : Nat) : (madeCells #[.int .i64 0, .int .i64 0, .int .i64 0] n).toList = ints (rowZ (fun _ => 0) n) := by
  refine List.ext_getElem? fun j => ?_
  by_cases h : j < n
  · have h3 : j % 3 = 0 ∨ j % 3 = 1 ∨ j % 3 = 2 := by omega
    rcases h3 with h3 | h3 | h3 <;> simp [madeCells, rowZ, ints, h, h3]
  · simp [madeCells, rowZ, ints, h]
theorem own_full3 {w : World} {base g n : Nat} {e : TypeId} {xs : List Value} (h : w.ownsRow base e 3 (.slice (some ⟨g, 0, none⟩) n n) n xs) : w.heap[g]? = some (.cells xs.toArray e (0, 0)) := by
  rcases h.2 with ⟨hv, _⟩ | ⟨g', cap, cur, hv, _, hg, _, _, hcs, htake⟩
  · cases hv
  · injection hv with h1 h2 h3
    injection h1 with h1
    injection h1 with h1
    subst h1; subst h3
    have : cur.toList = xs := by rw [← htake, List.take_of_length_le (by simp [hcs])]
    rw [← this]
    simpa using hg
/-- The three numbers of each day. -/
def catG (C : List ByteArray) (p : Nat) : Nat :=
  if p % 3 = 0 then cnt (mkB · (p / 3)) C C.length else if p % 3 = 1 then cnt (hitB · (p / 3)) C C.length else cnt (agB · (p / 3)) C C.length
theorem catG_0 (C : List ByteArray) (d : Nat) : catG C (d * 3) = cnt (mkB · d) C C.length := by
  unfold catG
  rw [if_pos (by omega), show d * 3 / 3 = d from by omega]
theorem catG_1 (C : List ByteArray) (d : Nat) : catG C (d * 3 + 1) = cnt (hitB · d) C C.length := by
  unfold catG
  rw [if_neg (by omega), if_pos (by omega), show (d * 3 + 1) / 3 = d from by omega]
theorem catG_2 (C : List ByteArray) (d : Nat) : catG C (d * 3 + 2) = cnt (agB · d) C C.length := by
  unfold catG
  rw [if_neg (by omega), if_neg (by omega), show (d * 3 + 2) / 3 = d from by omega]
def catC (C : List ByteArray) : List Value := if vhE C = 0 then ints (rowZ (catG C) (D0 C * 3)) else []
def catN (C : List ByteArray) : Nat := if vhE C = 0 then D0 C else 0
def CatPost (C : List ByteArray) (w : World) (e : Ending) (w' : World) : Prop := ∃ A' c', e = .returned (.tuple #[.slice A' (catN C) c', .int .i64 (vhE C)]) ∧ Rd w' w'.heap.size A' (catC C) ∧ Below w.heap.size w w'
/-- Three cells, stored anew. -/
def set3 (W : World) (g o : Nat) (a b c : Value) : World := ((W.setCell ⟨g, o, none⟩ a).setCell ⟨g, o + 1, none⟩ b).setCell ⟨g, o + 2, none⟩ c
theorem put3 {W : World} {g n j : Nat} {F : Nat → Nat} {t : TypeId} (hj : j < n) (h : W.heap[g]? = some (.cells (ints (rowZ (upTo F (j * 3)) (n * 3))).toArray t (0, 0))) {a b c : Nat} (ha : F (j * 3) = a) (hb : F (j * 3 + 1) = b) (hc : F (j * 3 + 2) = c) :
    (W.cell? ⟨g, j * 3, none⟩ = some (.int .i64 ((upTo F (j * 3) (j * 3) : Nat) : Int)) ∧ W.frozen? ⟨g, j * 3, none⟩ = false) ∧
    ((W.setCell ⟨g, j * 3, none⟩ (.int .i64 (a : Int))).cell? ⟨g, j * 3 + 1, none⟩ = some (.int .i64 ((upTo F (j * 3 + 1) (j * 3 + 1) : Nat) : Int)) ∧ (W.setCell ⟨g, j * 3, none⟩ (.int .i64 (a : Int))).frozen? ⟨g, j * 3 + 1, none⟩ = false) ∧
    (((W.setCell ⟨g, j * 3, none⟩ (.int .i64 (a : Int))).setCell ⟨g, j * 3 + 1, none⟩ (.int .i64 (b : Int))).cell? ⟨g, j * 3 + 2, none⟩ = some (.int .i64 ((upTo F (j * 3 + 2) (j * 3 + 2) : Nat) : Int)) ∧ ((W.setCell ⟨g, j * 3, none⟩ (.int .i64 (a : Int))).setCell ⟨g, j * 3 + 1, none⟩ (.int .i64 (b : Int))).frozen? ⟨g, j * 3 + 2, none⟩ = false) ∧
    Hid ((set3 W g (j * 3) (.int .i64 (a : Int)) (.int .i64 (b : Int)) (.int .i64 (c : Int))).heap[g]? = some (.cells (ints (rowZ (upTo F ((j + 1) * 3)) (n * 3))).toArray t (0, 0))) := by
  have st : ∀ k, (upTo F (k + 1)) k = F k := fun k => by unfold upTo; rw [if_pos (Nat.lt_succ_self k)]
  have h1 := blk_set h (j * 3) (.int .i64 (a : Int))
  rw [rowZ_set (g := upTo F (j * 3 + 1)) (by rw [st, ha]) (fun p hp => upTo_step hp)] at h1
  have h2 := blk_set h1 (j * 3 + 1) (.int .i64 (b : Int))
  rw [rowZ_set (g := upTo F (j * 3 + 1 + 1)) (by rw [st, hb]) (fun p hp => upTo_step hp)] at h2
  have h3 := blk_set h2 (j * 3 + 2) (.int .i64 (c : Int))
  rw [rowZ_set (g := upTo F (j * 3 + 1 + 1 + 1)) (by rw [st, hc]) (fun p hp => upTo_step hp)] at h3
  exact ⟨⟨(blk_cell h).trans (rowZ_at (by omega)), blk_free h _⟩, ⟨(blk_cell h1).trans (rowZ_at (by omega)), blk_free h1 _⟩, ⟨(blk_cell h2).trans (rowZ_at (by omega)), blk_free h2 _⟩, Lib.hid (by rw [show (j + 1) * 3 = j * 3 + 1 + 1 + 1 from by omega]; exact h3)⟩
theorem put3_below {B : Nat} {w W : World} {g o : Nat} (a b c : Value) (h : Below B w W) (hg : B ≤ g) (hs : B ≤ W.heap.size) : Below B w (set3 W g o a b c) :=
  h.grown (((grown_set1 W g o a).trans (grown_set1 _ g (o + 1) b)).trans (grown_set1 _ g (o + 2) c)) hs fun q hq => by injection hq with hq; omega
end Go.Proofs.YtegehfcnclpdeaaDoor

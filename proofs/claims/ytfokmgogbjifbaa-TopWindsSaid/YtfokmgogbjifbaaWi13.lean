/-
  Roses: arrays of 32 numbers; the walks of isRose, sum, Sum of package wind and of roseOK, sum, Sum of the reference. No condition.
-/
import Derived.Test.YtfokmgogbjifbaaWi10
import Derived.Test.YtfokmgogbjifbaaIdx
import Derived.Lib.QuietBelow
import Derived.Deep.QuietTactic
import Derived.BigQuiet
namespace Go.Proofs.Ytfokmgogbjifbaa
open Go.RowKit
set_option linter.unusedVariables false

theorem rd_grown {w : World} {A : Option Addr} {xs : List Value} (h : Rd w w.heap.size A xs) (d : Nat) (os : Array Obj) : Rd (Go.Sort.grow (redrawn w d) os) (Go.Sort.grow (redrawn w d) os).heap.size A xs :=
  (h.below (below_regrown w d os) (Nat.le_refl _)).more (below_regrown w d os).size
/-- A rose: 32 numbers. -/
def Rose (L : List Int) : Prop := L.length = 32
def rv (L : List Int) : Array Value := (ints L).toArray
theorem rv_at {L : List Int} (h : Rose L) {p : Nat} (hp : p < 32) : (rv L)[p]? = some (.int .i64 (L.getD p 0)) := by
  unfold Rose at h
  unfold rv ints
  rw [List.getElem?_toArray, List.getElem?_map, List.getElem?_eq_getElem (by omega), List.getD_eq_getElem?_getD, List.getElem?_eq_getElem (by omega)]
  rfl
theorem rv_size {L : List Int} (h : Rose L) : (rv L).size = 32 := by unfold Rose at h; simp [rv, ints, h]
theorem Try.sizeRose : (Try.prog.info? 62).map (·.size) = some 32 := by kernel_rfl
theorem size_rose {L : List Int} (h : Rose L) : (Try.prog.info? 62).map (·.size) = some (rv L).size := by rw [rv_size h]; exact Try.sizeRose
theorem idx_rose {L : List Int} (h : Rose L) {p : Nat} (hp : p < 32) (w : World) : (Instr.index 62 (.agg (rv L)) (.int .i64 (p : Int))).run Try.prog w = .ok (.int .i64 (L.getD p 0)) w := by
  obtain ⟨i0, hi0, _, hz0, _⟩ := info_parts Try.eInt.hi
  exact run_index_arr (P := Try.prog) Try.underlying62 Try.underlying3 rfl hi0 hz0 hp (rv_at h hp) w
def okR (n : Int) : Bool := decide (0 ≤ n) && decide (n ≤ 10000)
theorem okR_iff {n : Int} : okR n = true ↔ 0 ≤ n ∧ n ≤ 10000 := by simp [okR]
def roseB (L : List Int) : Bool := L.all okR
theorem roseB_bad {L : List Int} (h : Rose L) {p : Nat} (hp : p < 32) (hb : okR (L.getD p 0) = false) : roseB L = false := by
  unfold Rose at h
  unfold roseB
  rw [List.all_eq_false]
  refine ⟨L.getD p 0, ?_, by rw [hb]; decide⟩
  rw [List.getD_eq_getElem?_getD, List.getElem?_eq_getElem (by omega)]
  exact List.getElem_mem _
theorem roseB_ok {L : List Int} (h : Rose L) (hall : ∀ p, p < 32 → okR (L.getD p 0) = true) : roseB L = true := by
  unfold Rose at h
  unfold roseB
  rw [List.all_eq_true]
  intro x hx
  obtain ⟨j, hj, he⟩ := List.getElem_of_mem hx
  have := hall j (by omega)
  rw [List.getD_eq_getElem?_getD, List.getElem?_eq_getElem hj] at this
  rw [← he]
  exact this
theorem roseB_at {L : List Int} (hb : roseB L = true) (p : Nat) : 0 ≤ L.getD p 0 ∧ L.getD p 0 ≤ 10000 := by
  rcases Nat.lt_or_ge p L.length with h | h
  · rw [List.getD_eq_getElem?_getD, List.getElem?_eq_getElem h]
    exact okR_iff.1 (List.all_eq_true.1 hb _ (List.getElem_mem h))
  · rw [List.getD_eq_getElem?_getD, List.getElem?_eq_none h]
    simp
def sumK (f : Nat → Bool) (L : List Int) : Nat → Int
  | 0 => 0
  | k + 1 => sumK f L k + if f k then L.getD k 0 else 0
theorem sumK_le {f : Nat → Bool} {L : List Int} (h : roseB L = true) : ∀ k : Nat, 0 ≤ sumK f L k ∧ sumK f L k ≤ 10000 * (k : Int)
  | 0 => by simp [sumK]
  | k + 1 => by
    have ih := sumK_le (f := f) h k
    have h1 := roseB_at h k
    rw [sumK]
    split <;> omega
theorem sumK_congr {f g : Nat → Bool} {L : List Int} : ∀ {k : Nat}, (∀ j, j < k → f j = g j) → sumK f L k = sumK g L k
  | 0, _ => rfl
  | k + 1, h => by rw [sumK, sumK, sumK_congr fun j hj => h j (by omega), h k (by omega)]
theorem sumK_yes {f : Nat → Bool} {L : List Int} {k : Nat} (h : f k = true) : sumK f L (k + 1) = sumK f L k + L.getD k 0 := by rw [sumK, if_pos h]
theorem sumK_no {f : Nat → Bool} {L : List Int} {k : Nat} (h : f k = false) : sumK f L (k + 1) = sumK f L k := by rw [sumK, if_neg (by rw [h]; decide), Int.add_zero]
def roS (a : Pt) (L : List Int) : Int := sumK (hasN a) L 32
theorem roS_bits (a : Pt) (L : List Int) : sumK (arcN a).testBit L 32 = roS a L := sumK_congr fun j hj => by rw [arcN_is, bitK_test _ _ _ hj]
theorem roS_le {a : Pt} {L : List Int} (h : roseB L = true) : 0 ≤ roS a L ∧ roS a L ≤ 320000 := by
  have := sumK_le (f := hasN a) h 32
  unfold roS
  omega
def sumE (a : Pt) (L : List Int) : Int := if arcE a = 0 then (if roseB L then 0 else 1) else 1
def sumV (a : Pt) (L : List Int) : Int := if sumE a L = 0 then roS a L else 0
theorem sumE_zero {a : Pt} {L : List Int} (h : sumE a L = 0) : arcE a = 0 ∧ roseB L = true := by
  unfold sumE at h
  split at h
  · rename_i h1
    refine ⟨h1, ?_⟩
    split at h
    · assumption
    · cases h
  · cases h
theorem arcE_one {a : Pt} (h : ¬ arcE a = 0) : arcE a = 1 := by
  unfold arcE at h ⊢
  split
  · rename_i h1
    rw [if_pos h1] at h
    exact absurd rfl h
  · rfl
theorem ld_rose {w : World} {g : Nat} {L : List Int} (hL : Rose L) (h : w.heap[g]? = some (.cells (rv L) 62 (0, 0))) : (Instr.loadAt 62 (.pointer (some ⟨g, 0, none⟩))).run Try.prog w = .ok (.agg (rv L)) w := by
  simp only [Instr.loadAt, Instr.sureAddr, Sem.run_bind, Sem.run_pure, Result.andThen]
  exact run_loadVar_row _ _ _ _ _ _ _ h Try.underlying62 rfl (size_rose hL)
theorem quiet_load {P : Program} {C : World → Prop} {K : Act → Prop} {a : Act} {o : Oper} (ty : TypeId) (x : Operand) (ho : o.op = .load ty x) (v : Value)
    (hx : ∀ w, C w → (Instr.loadAt ty (a.eval x)).run P w = .ok v w) (h : K (a.put o.dst v)) : o.quiet P a C K := by
  refine ⟨v, fun w hc => ?_, h⟩
  unfold Oper.quietAt execOp
  simp only [ho, Sem.run_bind, hx w hc, Result.andThen, Sem.run_pure]
  exact ⟨rfl, rfl⟩
theorem blk_regrown {w : World} {g : Nat} {o : Obj} (h : w.heap[g]? = some o) (d : Nat) (os : Array Obj) : (Go.Sort.grow (redrawn w d) os).heap[g]? = some o :=
  ((below_regrown w d os).block g (lt_of_block h)).trans h
end Go.Proofs.Ytfokmgogbjifbaa

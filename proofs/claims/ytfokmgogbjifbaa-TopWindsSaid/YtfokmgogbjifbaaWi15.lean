/-
  The best arc of a width: the walk of Best of package wind. No condition.
-/
import Derived.Test.YtfokmgogbjifbaaWi14
namespace Go.Proofs.Ytfokmgogbjifbaa
open Go.RowKit
set_option linter.unusedVariables false

/-- The best arc among those from 0 to k. -/
def bK (L : List Int) (v : Int) : Nat → Nat
  | 0 => 0
  | k + 1 => if roS ⟨(bK L v k : Nat), v⟩ L < roS ⟨((k + 1 : Nat) : Int), v⟩ L then k + 1 else bK L v k
theorem bK_le (L : List Int) (v : Int) : ∀ k, bK L v k ≤ k
  | 0 => Nat.le_refl _
  | k + 1 => by
    have := bK_le L v k
    rw [bK]
    split <;> omega
def bM (L : List Int) (v : Int) : Nat → Int
  | 0 => -1
  | k + 1 => roS ⟨(bK L v k : Nat), v⟩ L
def bF (L : List Int) (v : Int) : Nat → Int
  | 0 => 0
  | k + 1 => (bK L v k : Nat)
def bW (v : Int) : Nat → Int
  | 0 => 0
  | _ + 1 => v
theorem best_yes {L : List Int} {v : Int} (hr : roseB L = true) : ∀ {k : Nat}, bM L v k < roS ⟨(k : Int), v⟩ L → bF L v (k + 1) = (k : Int) ∧ bW v (k + 1) = v ∧ bM L v (k + 1) = roS ⟨(k : Int), v⟩ L
  | 0, _ => ⟨rfl, rfl, rfl⟩
  | k + 1, h => by
    have e : bK L v (k + 1) = k + 1 := by rw [bK, if_pos (show roS ⟨(bK L v k : Nat), v⟩ L < _ from h)]
    refine ⟨?_, rfl, ?_⟩
    · show ((bK L v (k + 1) : Nat) : Int) = _
      rw [e]
    · show roS ⟨(bK L v (k + 1) : Nat), v⟩ L = _
      rw [e]
theorem best_no {L : List Int} {v : Int} (hr : roseB L = true) : ∀ {k : Nat}, ¬ bM L v k < roS ⟨(k : Int), v⟩ L → bF L v (k + 1) = bF L v k ∧ bW v (k + 1) = bW v k ∧ bM L v (k + 1) = bM L v k
  | 0, h => by
    have h1 := roS_le (a := ⟨((0 : Nat) : Int), v⟩) hr
    have h2 : bM L v 0 = -1 := rfl
    omega
  | k + 1, h => by
    have e : bK L v (k + 1) = bK L v k := by rw [bK, if_neg (show ¬ roS ⟨(bK L v k : Nat), v⟩ L < _ from h)]
    refine ⟨?_, rfl, ?_⟩
    · show ((bK L v (k + 1) : Nat) : Int) = (bK L v k : Nat)
      rw [e]
    · show roS ⟨(bK L v (k + 1) : Nat), v⟩ L = roS ⟨(bK L v k : Nat), v⟩ L
      rw [e]
def bestE (L : List Int) (v : Int) : Int := if roseB L && wd v then 0 else 1
def bestA (L : List Int) (v : Int) : Pt := if roseB L && wd v then ⟨(bK L v 31 : Nat), v⟩ else ⟨0, 0⟩
def bestN (L : List Int) (v : Int) : Int := if roseB L && wd v then roS ⟨(bK L v 31 : Nat), v⟩ L else 0
theorem bM_le {L : List Int} (hr : roseB L = true) (v : Int) (k : Nat) : -1 ≤ bM L v k ∧ bM L v k ≤ 320000 := by
  cases k with
  | zero => exact ⟨Int.le_refl _, by show (-1 : Int) ≤ 320000; omega⟩
  | succ k =>
    have := roS_le (a := ⟨(bK L v k : Nat), v⟩) hr
    show -1 ≤ roS ⟨(bK L v k : Nat), v⟩ L ∧ _
    exact ⟨by omega, this.2⟩
theorem results_tri {fn : Func} {p s t : Tmp} {ty : TypeId} (h : fn.results = #[.cell p ty, .tmp s, .tmp t]) (tmps : Array Value) (P : Program) (w : World) {a : Addr} {u : Value} (hp : tmps.getD p undef = .pointer (some a)) (hl : (loadVar ty a).run P w = .ok u w) :
    (results fn tmps).run P w = .ok (.tuple #[u, tmps.getD s undef, tmps.getD t undef]) w := by
  simp only [results, h]
  have hp' : tmps[p]?.getD undef = .pointer (some a) := by simpa using hp
  simp [Result.andThen, hp', asAddr, hl]
theorem two_row {w : World} {g : Nat} {x y : Int} {t : TypeId} (h : w.heap[g]? = some (.cells #[.int .i64 x, .int .i64 y] t (0, 0))) :
    w.cell? ⟨g, 0, none⟩ = some (.int .i64 x) ∧ w.cell? ⟨g, 1, none⟩ = some (.int .i64 y) ∧ w.frozen? ⟨g, 0, none⟩ = false ∧ w.frozen? ⟨g, 1, none⟩ = false :=
  ⟨by rw [blk_cell h]; rfl, by rw [blk_cell h]; rfl, blk_free h 0, blk_free h 1⟩
theorem two_set {w : World} {g : Nat} {x y x' y' : Int} {t : TypeId} (h : w.heap[g]? = some (.cells #[.int .i64 x, .int .i64 y] t (0, 0))) :
    ((w.setCell ⟨g, 0, none⟩ (.int .i64 x')).setCell ⟨g, 1, none⟩ (.int .i64 y')).heap[g]? = some (.cells #[.int .i64 x', .int .i64 y'] t (0, 0)) :=
  blk_set (blk_set h 0 (.int .i64 x')) 1 (.int .i64 y')
theorem Try.sizeArc : (Try.prog.info? 37).map (·.size) = some 2 := by kernel_rfl
def BestPost (w : World) (L : List Int) (v : Int) (e : Ending) (w' : World) : Prop := e = .returned (.tuple #[(bestA L v).v, .int .i64 (bestN L v), .int .i64 (bestE L v)]) ∧ Below w.heap.size w w'
end Go.Proofs.Ytfokmgogbjifbaa

/-
  How the arguments of purse's laws are opened. No condition.
-/
import Derived.Test.YtfmhanpibgmgfaaGme
import Derived.Test.YtfmhanpibgmgfaaProg
import Derived.Test.YtfmhanpibgmgfaaRows
import Derived.Test.YtfmhanpibgmgfaaPost
namespace Go.Proofs.Ytfmhanpibgmgfaa
open Go.RowKit
set_option linter.unusedVariables false

theorem own : ownKnob Try.prog.godebug = none := by kernel_rfl
theorem laidOut : laidOutB Try.prog = true := by kernel_rfl
theorem cInt : Try.prog.cellsOf 3 = 1 := by kernel_rfl
theorem cSl : Try.prog.cellsOf 22 = 1 := by kernel_rfl
theorem cPay : Try.prog.cellsOf 44 = 2 := by kernel_rfl
/-- A pay, as it lies in memory. -/
structure Py where
  den : Int
  A : Option Addr
  c : Nat
  l : List Int
def Py.cells (p : Py) : List Value := [.int .i64 p.den, .slice p.A p.l.length p.c]
structure Pyfit (w : World) (p : Py) : Prop where
  r : Rd w w.heap.size p.A (ints p.l)
  lc : p.l.length ≤ p.c
  cm : p.c ≤ maxLen
section
open Go.ChangeShapes Go.WideShapes Go.Deep Go.ChangeAt
variable {H : Type} {enc : TypeId × Value → H} {P : Program} {w : World}
theorem py_of {e ei ti : TypeId} {f0 f1 : Field} {n : Nat} {cs : List Value} {y : DataW H × List MemPlace} (he : P.underlying e = some (.struct #[f0, f1])) (t0 : f0.type = ei) (t1 : f1.type = ti) (o0 : f0.offset = 0) (o1 : f1.offset = 1)
    (hC : P.cellsOf e = 2) (ct : P.cellsOf ti = 1) (hi : P.underlying ti = some (.slice ei)) (hei : P.underlying ei = some (.int .i64)) (cei : P.cellsOf ei = 1) (h : DataW.trod enc P w 0 (fun _ => true) true n e cs = some y) : ∃ m : Py, cs = Py.cells m ∧ Pyfit w m := by
  obtain ⟨ys, n', _, _, hlen, hyl, hf⟩ := DataW.trod_struct he h
  rw [hC] at hlen
  match cs, hlen with
  | [v0, v1], _ =>
    match ys, hyl with
    | [y0, y1], _ =>
      have h0 := hf 0 f0 rfl
      have h1 := hf 1 f1 rfl
      rw [o0, t0, cei] at h0
      rw [o1, t1, ct] at h1
      obtain ⟨x0, e0, _, _⟩ := DataW.trod_int hei h0
      obtain ⟨A1, c1, l1, e1, a1, b1, r1⟩ := int_of hi hei cei h1
      simp at e0 e1
      exact ⟨⟨x0, A1, c1, l1⟩, by simp [Py.cells, e0, e1], ⟨r1, a1, b1⟩⟩
end
theorem py_row {H : Type} {enc : TypeId × Value → H} {w : World} (n : Nat) (cs : List Value) (y : DataW H × List MemPlace) (h : DataW.trod enc Try.prog w 0 (fun _ => true) true n 44 cs = some y) : ∃ m : Py, cs = Py.cells m ∧ Pyfit w m :=
  py_of Try.underlying44 rfl rfl rfl rfl cPay cSl Try.underlying22 Try.underlying3 cInt h
end Go.Proofs.Ytfmhanpibgmgfaa

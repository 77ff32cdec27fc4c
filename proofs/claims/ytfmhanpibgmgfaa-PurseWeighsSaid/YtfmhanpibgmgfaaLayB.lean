/-
  How a balance is opened. No condition.
-/
import Derived.Test.YtfmhanpibgmgfaaLayP
namespace Go.Proofs.Ytfmhanpibgmgfaa
open Go.RowKit
set_option linter.unusedVariables false

theorem cBal : Try.prog.cellsOf 52 = 2 := by kernel_rfl
theorem cPart : Try.prog.cellsOf 59 = 2 := by kernel_rfl
theorem cParts : Try.prog.cellsOf 50 = 1 := by kernel_rfl
/-- A balance, as it lies in memory. -/
structure Bl where
  den : Int
  A : Option Addr
  c : Nat
  l : List Pt
def Bl.cells (p : Bl) : List Value := [.int .i64 p.den, .slice p.A p.l.length p.c]
structure Blfit (w : World) (p : Bl) : Prop where
  r : Rd w w.heap.size p.A (p.l.flatMap Pt.cells)
  lc : p.l.length ≤ p.c
  cm : p.c ≤ maxLen
section
open Go.ChangeShapes Go.WideShapes Go.Deep Go.ChangeAt
variable {H : Type} {enc : TypeId × Value → H} {P : Program} {w : World}
theorem bl_of {e ei ti tp : TypeId} {f0 f1 g0 g1 : Field} {n : Nat} {cs : List Value} {y : DataW H × List MemPlace} (he : P.underlying e = some (.struct #[f0, f1])) (t0 : f0.type = ei) (t1 : f1.type = ti) (o0 : f0.offset = 0) (o1 : f1.offset = 1)
    (hC : P.cellsOf e = 2) (ct : P.cellsOf ti = 1) (hi : P.underlying ti = some (.slice tp)) (hp : P.underlying tp = some (.struct #[g0, g1])) (p0 : g0.offset = 0) (p1 : g1.offset = 1) (q0 : g0.type = ei) (q1 : g1.type = ei) (cp : P.cellsOf tp = 2) (hei : P.underlying ei = some (.int .i64)) (cei : P.cellsOf ei = 1) (h : DataW.trod enc P w 0 (fun _ => true) true n e cs = some y) : ∃ m : Bl, cs = Bl.cells m ∧ Blfit w m := by
  obtain ⟨ys, n', _, _, hlen, hyl, hf⟩ := DataW.trod_struct he h
  rw [hC] at hlen
  match cs, hlen with
  | [v0, v1], _ =>
    match ys, hyl with
    | [y0, y1], _ =>
      have h0 := hf 0 f0 rfl
      have h1 := hf 1 f1 rfl
      rw [o0, t0, cei] at h0
      rw [o1, t1, ct] at h1
      obtain ⟨x0, e0, _, _⟩ := DataW.trod_int hei h0
      obtain ⟨A1, c1, l1, e1, a1, b1, r1, _⟩ := slice_of Pt.cells GoodP hi cp (by decide) ptLen (fun n cs y hy => pt_of hp p0 p1 (by rw [q0]; exact cei) (by rw [q1]; exact cei) cp (by rw [q0]; exact hei) (by rw [q1]; exact hei) hy) h1
      simp at e0 e1
      exact ⟨⟨x0, A1, c1, l1⟩, by simp [Bl.cells, e0, e1], ⟨r1, a1, b1⟩⟩
end
theorem bl_row {H : Type} {enc : TypeId × Value → H} {w : World} (n : Nat) (cs : List Value) (y : DataW H × List MemPlace) (h : DataW.trod enc Try.prog w 0 (fun _ => true) true n 52 cs = some y) : ∃ m : Bl, cs = Bl.cells m ∧ Blfit w m :=
  bl_of Try.underlying52 rfl rfl rfl rfl cBal cParts Try.underlying50 Try.underlying59 rfl rfl rfl rfl cPart Try.underlying3 cInt h
end Go.Proofs.Ytfmhanpibgmgfaa

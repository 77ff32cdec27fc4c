/-
  How the arguments of lure's laws are opened. No condition.
-/
import Derived.Test.YtldepjpalhmpnaaGme
import Derived.Test.YtldepjpalhmpnaaProg
import Derived.Test.YtldepjpalhmpnaaRows
import Derived.Test.YtldepjpalhmpnaaPost
namespace Go.Proofs.Ytldepjpalhmpnaa
open Go.RowKit
set_option linter.unusedVariables false

theorem own : ownKnob Try.prog.godebug = none := by kernel_rfl
theorem laidOut : laidOutB Try.prog = true := by kernel_rfl
theorem cInt : Try.prog.cellsOf 3 = 1 := by kernel_rfl
theorem cSl : Try.prog.cellsOf 22 = 1 := by kernel_rfl
theorem cSs : Try.prog.cellsOf 23 = 1 := by kernel_rfl
theorem cGm : Try.prog.cellsOf 25 = 2 := by kernel_rfl
theorem gm_row {H : Type} {enc : TypeId × Value → H} {w : World} (n : Nat) (cs : List Value) (y : DataW H × List MemPlace) (h : DataW.trod enc Try.prog w 0 (fun _ => true) true n 25 cs = some y) : ∃ g : Gv, cs = Gv.cells g ∧ (Gfit g ∧ RdG w w.heap.size g) :=
  gm_of Try.underlying25 rfl rfl rfl rfl cSl cSs cGm Try.underlying22 Try.underlying23 Try.underlying3 cInt h
/-- Two plans, a place and a number of moves, as they lie in memory. -/
structure Mt where
  A0 : Option Addr
  c0 : Nat
  man : List Int
  A1 : Option Addr
  c1 : Nat
  ducks : List Int
  from_ : Int
  moves : Int
def Mt.cells (m : Mt) : List Value := [.slice m.A0 m.man.length m.c0, .slice m.A1 m.ducks.length m.c1, .int .i64 m.from_, .int .i64 m.moves]
def Mt.v (m : Mt) : Value := .agg #[.slice m.A0 m.man.length m.c0, .slice m.A1 m.ducks.length m.c1, .int .i64 m.from_, .int .i64 m.moves]
structure Mfit (w : World) (m : Mt) : Prop where
  r0 : Rd w w.heap.size m.A0 (ints m.man)
  l0 : m.man.length ≤ m.c0
  k0 : m.c0 ≤ maxLen
  r1 : Rd w w.heap.size m.A1 (ints m.ducks)
  l1 : m.ducks.length ≤ m.c1
  k1 : m.c1 ≤ maxLen
section
open Go.ChangeShapes Go.WideShapes Go.Deep Go.ChangeAt
variable {H : Type} {enc : TypeId × Value → H} {P : Program} {w : World}
theorem mt_of {e ei ti : TypeId} {f0 f1 f2 f3 : Field} {n : Nat} {cs : List Value} {y : DataW H × List MemPlace} (he : P.underlying e = some (.struct #[f0, f1, f2, f3])) (t0 : f0.type = ti) (t1 : f1.type = ti) (t2 : f2.type = ei) (t3 : f3.type = ei) (o0 : f0.offset = 0) (o1 : f1.offset = 1) (o2 : f2.offset = 2) (o3 : f3.offset = 3)
    (hC : P.cellsOf e = 4) (ct : P.cellsOf ti = 1) (hi : P.underlying ti = some (.slice ei)) (hei : P.underlying ei = some (.int .i64)) (cei : P.cellsOf ei = 1) (h : DataW.trod enc P w 0 (fun _ => true) true n e cs = some y) : ∃ m : Mt, cs = Mt.cells m ∧ Mfit w m := by
  obtain ⟨ys, n', _, _, hlen, hyl, hf⟩ := DataW.trod_struct he h
  rw [hC] at hlen
  match cs, hlen with
  | [v0, v1, v2, v3], _ =>
    match ys, hyl with
    | [y0, y1, y2, y3], _ =>
      have h0 := hf 0 f0 rfl
      have h1 := hf 1 f1 rfl
      have h2 := hf 2 f2 rfl
      have h3 := hf 3 f3 rfl
      rw [o0, t0, ct] at h0
      rw [o1, t1, ct] at h1
      rw [o2, t2, cei] at h2
      rw [o3, t3, cei] at h3
      obtain ⟨A0, c0, l0, e0, a0, b0, r0⟩ := int_of hi hei cei h0
      obtain ⟨A1, c1, l1, e1, a1, b1, r1⟩ := int_of hi hei cei h1
      obtain ⟨x2, e2, _, _⟩ := DataW.trod_int hei h2
      obtain ⟨x3, e3, _, _⟩ := DataW.trod_int hei h3
      simp at e0 e1 e2 e3
      exact ⟨⟨A0, c0, l0, A1, c1, l1, x2, x3⟩, by simp [Mt.cells, e0, e1, e2, e3], ⟨r0, a0, b0, r1, a1, b1⟩⟩
end
end Go.Proofs.Ytldepjpalhmpnaa

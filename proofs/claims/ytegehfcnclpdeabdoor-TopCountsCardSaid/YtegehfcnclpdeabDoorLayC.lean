/-
  How the arguments of count's laws are opened. No condition.
-/
import Derived.Test.YtegehfcnclpdeabDoorPnt
import Derived.Test.YtegehfcnclpdeabDoorProg
import Derived.Test.YtegehfcnclpdeabDoorRows
import Derived.Test.YtegehfcnclpdeabDoorPost
namespace Go.Proofs.YtegehfcnclpdeabDoor
open Go.RowKit
set_option linter.unusedVariables false

theorem own : ownKnob Tryd.prog.godebug = none := by kernel_rfl
theorem laidOut : laidOutB Tryd.prog = true := by kernel_rfl
theorem cInt : Tryd.prog.cellsOf 3 = 1 := by kernel_rfl
theorem cBd : Tryd.prog.cellsOf 23 = 4 := by kernel_rfl
theorem cRat : Tryd.prog.cellsOf 31 = 2 := by kernel_rfl
theorem cCt : Tryd.prog.cellsOf 42 = 3 := by kernel_rfl
structure Q4 where
  b : Int
  m : Int
  c : Int
  a : Int
def Q4.cells (q : Q4) : List Value := [.int .i64 q.b, .int .i64 q.m, .int .i64 q.c, .int .i64 q.a]
def GoodQ (q : Q4) : Prop := (Lit.int .i64 q.b).wf = true ∧ (Lit.int .i64 q.m).wf = true ∧ (Lit.int .i64 q.c).wf = true ∧ (Lit.int .i64 q.a).wf = true
structure C3 where
  m : Int
  c : Int
  a : Int
def C3.cells (q : C3) : List Value := [.int .i64 q.m, .int .i64 q.c, .int .i64 q.a]
def GoodC (q : C3) : Prop := (Lit.int .i64 q.m).wf = true ∧ (Lit.int .i64 q.c).wf = true ∧ (Lit.int .i64 q.a).wf = true
theorem c3Len (q : C3) : (C3.cells q).length = 3 := rfl
section
open Go.ChangeShapes Go.WideShapes Go.Deep Go.ChangeAt
variable {H : Type} {enc : TypeId × Value → H} {P : Program} {w : World}
theorem q4_of {e ei : TypeId} {f0 f1 f2 f3 : Field} {n : Nat} {cs : List Value} {y : DataW H × List MemPlace} (he : P.underlying e = some (.struct #[f0, f1, f2, f3])) (t0 : f0.type = ei) (t1 : f1.type = ei) (t2 : f2.type = ei) (t3 : f3.type = ei) (o0 : f0.offset = 0) (o1 : f1.offset = 1) (o2 : f2.offset = 2) (o3 : f3.offset = 3)
    (hC : P.cellsOf e = 4) (hei : P.underlying ei = some (.int .i64)) (cei : P.cellsOf ei = 1) (h : DataW.trod enc P w 0 (fun _ => true) true n e cs = some y) : ∃ m : Q4, cs = Q4.cells m ∧ GoodQ m := by
  obtain ⟨ys, n', _, _, hlen, hyl, hf⟩ := DataW.trod_struct he h
  rw [hC] at hlen
  match cs, hlen with
  | [v0, v1, v2, v3], _ =>
    match ys, hyl with
    | [y0, y1, y2, y3], _ =>
      have h0 := hf 0 f0 rfl
      have h1 := hf 1 f1 rfl
      have h2 := hf 2 f2 rfl
      have h3 := hf 3 f3 rfl
      rw [o0, t0, cei] at h0
      rw [o1, t1, cei] at h1
      rw [o2, t2, cei] at h2
      rw [o3, t3, cei] at h3
      obtain ⟨a, ha, _, w0⟩ := DataW.trod_int hei h0
      obtain ⟨b, hb, _, w1⟩ := DataW.trod_int hei h1
      obtain ⟨c, hc, _, w2⟩ := DataW.trod_int hei h2
      obtain ⟨d, hd, _, w3⟩ := DataW.trod_int hei h3
      simp at ha hb hc hd
      exact ⟨⟨a, b, c, d⟩, by simp [Q4.cells, ha, hb, hc, hd], w0, w1, w2, w3⟩
theorem c3_of {e ei : TypeId} {f0 f1 f2 : Field} {n : Nat} {cs : List Value} {y : DataW H × List MemPlace} (he : P.underlying e = some (.struct #[f0, f1, f2])) (t0 : f0.type = ei) (t1 : f1.type = ei) (t2 : f2.type = ei) (o0 : f0.offset = 0) (o1 : f1.offset = 1) (o2 : f2.offset = 2)
    (hC : P.cellsOf e = 3) (hei : P.underlying ei = some (.int .i64)) (cei : P.cellsOf ei = 1) (h : DataW.trod enc P w 0 (fun _ => true) true n e cs = some y) : ∃ m : C3, cs = C3.cells m ∧ GoodC m := by
  obtain ⟨ys, n', _, _, hlen, hyl, hf⟩ := DataW.trod_struct he h
  rw [hC] at hlen
  match cs, hlen with
  | [v0, v1, v2], _ =>
    match ys, hyl with
    | [y0, y1, y2], _ =>
      have h0 := hf 0 f0 rfl
      have h1 := hf 1 f1 rfl
      have h2 := hf 2 f2 rfl
      rw [o0, t0, cei] at h0
      rw [o1, t1, cei] at h1
      rw [o2, t2, cei] at h2
      obtain ⟨a, ha, _, w0⟩ := DataW.trod_int hei h0
      obtain ⟨b, hb, _, w1⟩ := DataW.trod_int hei h1
      obtain ⟨c, hc, _, w2⟩ := DataW.trod_int hei h2
      simp at ha hb hc
      exact ⟨⟨a, b, c⟩, by simp [C3.cells, ha, hb, hc], w0, w1, w2⟩
end
theorem bd_row {H : Type} {enc : TypeId × Value → H} {w : World} (n : Nat) (cs : List Value) (y : DataW H × List MemPlace) (h : DataW.trod enc Tryd.prog w 0 (fun _ => true) true n 23 cs = some y) : ∃ m : Q4, cs = Q4.cells m ∧ GoodQ m :=
  q4_of Tryd.underlying23 rfl rfl rfl rfl rfl rfl rfl rfl cBd Tryd.underlying3 cInt h
theorem ct_row {H : Type} {enc : TypeId × Value → H} {w : World} (n : Nat) (cs : List Value) (y : DataW H × List MemPlace) (h : DataW.trod enc Tryd.prog w 0 (fun _ => true) true n 42 cs = some y) : ∃ m : C3, cs = C3.cells m ∧ GoodC m :=
  c3_of Tryd.underlying42 rfl rfl rfl rfl rfl rfl cCt Tryd.underlying3 cInt h
theorem rat_row {H : Type} {enc : TypeId × Value → H} {w : World} (n : Nat) (cs : List Value) (y : DataW H × List MemPlace) (h : DataW.trod enc Tryd.prog w 0 (fun _ => true) true n 31 cs = some y) : ∃ p, cs = Pt.cells p ∧ GoodP p :=
  pt_of Tryd.underlying31 rfl rfl cInt cInt cRat Tryd.underlying3 Tryd.underlying3 h
end Go.Proofs.YtegehfcnclpdeabDoor

/-
  How the arguments of book's laws are opened. No condition.
-/
import Derived.Test.YtklhjiagkkhldaaLay6
import Derived.Test.YtklhjiagkkhldaaPnt
namespace Go.Proofs.Ytklhjiagkkhldaa
open Go.RowKit
set_option linter.unusedVariables false

theorem cSl : Try.prog.cellsOf 35 = 1 := by kernel_rfl
theorem cWay : Try.prog.cellsOf 41 = 4 := by kernel_rfl
theorem cGrown : Try.prog.cellsOf 50 = 5 := by kernel_rfl
/-- A way and a growth, as they lie in memory. -/
structure Wy where
  a : Int
  b : Int
  d : Int
  A : Option Addr
  c : Nat
  l : List Int
def Wy.cells (p : Wy) : List Value := [.int .i64 p.a, .int .i64 p.b, .int .i64 p.d, .slice p.A p.l.length p.c]
structure Wyfit (w : World) (p : Wy) : Prop where
  r : Rd w w.heap.size p.A (ints p.l)
  lc : p.l.length ≤ p.c
  cm : p.c ≤ maxLen
structure Gw where
  a : Int
  b : Int
  d : Int
  f : Int
  A : Option Addr
  c : Nat
  l : List Int
def Gw.cells (p : Gw) : List Value := [.int .i64 p.a, .int .i64 p.b, .int .i64 p.d, .int .i64 p.f, .slice p.A p.l.length p.c]
structure Gwfit (w : World) (p : Gw) : Prop where
  r : Rd w w.heap.size p.A (ints p.l)
  lc : p.l.length ≤ p.c
  cm : p.c ≤ maxLen
section
open Go.ChangeShapes Go.WideShapes Go.Deep Go.ChangeAt
variable {H : Type} {enc : TypeId × Value → H} {P : Program} {w : World}
theorem int_of {t e : TypeId} {n : Nat} {cs : List Value} {y : DataW H × List MemPlace} (ht : P.underlying t = some (.slice e)) (he : P.underlying e = some (.int .i64)) (hc : P.cellsOf e = 1) (hf : DataW.trod enc P w 0 (fun _ => true) true n t cs = some y) :
    ∃ A c l, cs = [.slice A (l.length : Nat) c] ∧ l.length ≤ c ∧ c ≤ maxLen ∧ Rd w w.heap.size A (ints l) := by
  rcases open_ints ht he hc hf with ⟨hcs, _⟩ | ⟨a, len', cap', zs, hcs, _, hl, hm, hz, _, hcell, hw⟩
  · exact ⟨none, 0, [], hcs, by simp, by simp [maxLen], .inl rfl⟩
  · simp only [if_true] at hz
    have e : (zs.take len').length = len' := by simp; omega
    exact ⟨some a, cap', zs.take len', by rw [e]; exact hcs, by omega, hm, rd_of_cells (by omega) hcell⟩
theorem wy_of {e ei ti : TypeId} {f0 f1 f2 f3 : Field} {n : Nat} {cs : List Value} {y : DataW H × List MemPlace} (he : P.underlying e = some (.struct #[f0, f1, f2, f3])) (t0 : f0.type = ei) (t1 : f1.type = ei) (t2 : f2.type = ei) (t3 : f3.type = ti) (o0 : f0.offset = 0) (o1 : f1.offset = 1) (o2 : f2.offset = 2) (o3 : f3.offset = 3)
    (hC : P.cellsOf e = 4) (ct : P.cellsOf ti = 1) (hi : P.underlying ti = some (.slice ei)) (hei : P.underlying ei = some (.int .i64)) (cei : P.cellsOf ei = 1) (h : DataW.trod enc P w 0 (fun _ => true) true n e cs = some y) : ∃ m : Wy, cs = Wy.cells m ∧ Wyfit w m := by
  obtain ⟨ys, n', _, _, hlen, hyl, hf⟩ := DataW.trod_struct he h
  rw [hC] at hlen
  match cs, hlen with
  | [v0, v1, v2, v3], _ =>
    match ys, hyl with
    | [y0, y1, y2, y3], _ =>
      have h0 := hf 0 f0 rfl
      have h1 := hf 1 f1 rfl
      have h2 := hf 2 f2 rfl
      have h3 := hf 3 f3 rfl
      rw [o0, t0, cei] at h0
      rw [o1, t1, cei] at h1
      rw [o2, t2, cei] at h2
      rw [o3, t3, ct] at h3
      obtain ⟨x0, e0, _, _⟩ := DataW.trod_int hei h0
      obtain ⟨x1, e1, _, _⟩ := DataW.trod_int hei h1
      obtain ⟨x2, e2, _, _⟩ := DataW.trod_int hei h2
      obtain ⟨A1, c1, l1, e3, a1, b1, r1⟩ := int_of hi hei cei h3
      simp at e0 e1 e2 e3
      exact ⟨⟨x0, x1, x2, A1, c1, l1⟩, by simp [Wy.cells, e0, e1, e2, e3], ⟨r1, a1, b1⟩⟩
theorem gw_of {e ei ti : TypeId} {f0 f1 f2 f3 f4 : Field} {n : Nat} {cs : List Value} {y : DataW H × List MemPlace} (he : P.underlying e = some (.struct #[f0, f1, f2, f3, f4])) (t0 : f0.type = ei) (t1 : f1.type = ei) (t2 : f2.type = ei) (t3 : f3.type = ei) (t4 : f4.type = ti) (o0 : f0.offset = 0) (o1 : f1.offset = 1) (o2 : f2.offset = 2) (o3 : f3.offset = 3) (o4 : f4.offset = 4)
    (hC : P.cellsOf e = 5) (ct : P.cellsOf ti = 1) (hi : P.underlying ti = some (.slice ei)) (hei : P.underlying ei = some (.int .i64)) (cei : P.cellsOf ei = 1) (h : DataW.trod enc P w 0 (fun _ => true) true n e cs = some y) : ∃ m : Gw, cs = Gw.cells m ∧ Gwfit w m := by
  obtain ⟨ys, n', _, _, hlen, hyl, hf⟩ := DataW.trod_struct he h
  rw [hC] at hlen
  match cs, hlen with
  | [v0, v1, v2, v3, v4], _ =>
    match ys, hyl with
    | [y0, y1, y2, y3, y4], _ =>
      have h0 := hf 0 f0 rfl
      have h1 := hf 1 f1 rfl
      have h2 := hf 2 f2 rfl
      have h3 := hf 3 f3 rfl
      have h4 := hf 4 f4 rfl
      rw [o0, t0, cei] at h0
      rw [o1, t1, cei] at h1
      rw [o2, t2, cei] at h2
      rw [o3, t3, cei] at h3
      rw [o4, t4, ct] at h4
      obtain ⟨x0, e0, _, _⟩ := DataW.trod_int hei h0
      obtain ⟨x1, e1, _, _⟩ := DataW.trod_int hei h1
      obtain ⟨x2, e2, _, _⟩ := DataW.trod_int hei h2
      obtain ⟨x3, e3, _, _⟩ := DataW.trod_int hei h3
      obtain ⟨A1, c1, l1, e4, a1, b1, r1⟩ := int_of hi hei cei h4
      simp at e0 e1 e2 e3 e4
      exact ⟨⟨x0, x1, x2, x3, A1, c1, l1⟩, by simp [Gw.cells, e0, e1, e2, e3, e4], ⟨r1, a1, b1⟩⟩
end
theorem wy_row {H : Type} {enc : TypeId × Value → H} {w : World} (n : Nat) (cs : List Value) (y : DataW H × List MemPlace) (h : DataW.trod enc Try.prog w 0 (fun _ => true) true n 41 cs = some y) : ∃ m : Wy, cs = Wy.cells m ∧ Wyfit w m :=
  wy_of Try.underlying41 rfl rfl rfl rfl rfl rfl rfl rfl cWay cSl Try.underlying35 Try.underlying3 cInt h
theorem gw_row {H : Type} {enc : TypeId × Value → H} {w : World} (n : Nat) (cs : List Value) (y : DataW H × List MemPlace) (h : DataW.trod enc Try.prog w 0 (fun _ => true) true n 50 cs = some y) : ∃ m : Gw, cs = Gw.cells m ∧ Gwfit w m :=
  gw_of Try.underlying50 rfl rfl rfl rfl rfl rfl rfl rfl rfl rfl cGrown cSl Try.underlying35 Try.underlying3 cInt h
end Go.Proofs.Ytklhjiagkkhldaa

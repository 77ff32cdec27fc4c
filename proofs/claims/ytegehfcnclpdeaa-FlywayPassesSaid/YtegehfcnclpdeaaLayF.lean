/-
  How the arguments of flyway's laws are opened. No condition.
-/
import Derived.Test.YtegehfcnclpdeaaFwm
import Derived.Test.YtegehfcnclpdeaaFwv
import Derived.Test.YtegehfcnclpdeaaProg
import Derived.Test.YtegehfcnclpdeaaRows
import Derived.Test.YtegehfcnclpdeaaPost
namespace Go.Proofs.Ytegehfcnclpdeaa
open Go.RowKit
set_option linter.unusedVariables false

theorem own : ownKnob Try.prog.godebug = none := by kernel_rfl
theorem laidOut : laidOutB Try.prog = true := by kernel_rfl
theorem cInt : Try.prog.cellsOf 3 = 1 := by kernel_rfl
theorem cSl : Try.prog.cellsOf 39 = 1 := by kernel_rfl
theorem cTwo : Try.prog.cellsOf 24 = 2 := by kernel_rfl
section
open Go.ChangeShapes Go.WideShapes Go.Deep Go.ChangeAt
variable {H : Type} {enc : TypeId × Value → H} {P : Program} {w : World}
theorem int_of {t e : TypeId} {n : Nat} {cs : List Value} {y : DataW H × List MemPlace} (ht : P.underlying t = some (.slice e)) (he : P.underlying e = some (.int .i64)) (hc : P.cellsOf e = 1) (hf : DataW.trod enc P w 0 (fun _ => true) true n t cs = some y) :
    ∃ A c l, cs = [.slice A (l.length : Nat) c] ∧ l.length ≤ c ∧ c ≤ maxLen ∧ Rd w w.heap.size A (ints l) := by
  rcases open_ints ht he hc hf with ⟨hcs, _⟩ | ⟨a, len', cap', zs, hcs, _, hl, hm, hz, _, hcell, hw⟩
  · exact ⟨none, 0, [], hcs, by simp, by simp [maxLen], .inl rfl⟩
  · simp only [if_true] at hz
    have e : (zs.take len').length = len' := by simp; omega
    exact ⟨some a, cap', zs.take len', by rw [e]; exact hcs, by omega, hm, rd_of_cells (by omega) hcell⟩
theorem open_rows {t ti ei : TypeId} {r : Reach} {b0 : Nat} {v : Value} {d : DataW H} {p : List MemPlace} (ht : P.underlying t = some (.slice ti)) (hi : P.underlying ti = some (.slice ei)) (hei : P.underlying ei = some (.int .i64)) (c0 : P.cellsOf ti = 1) (cei : P.cellsOf ei = 1)
    (hval : Value.okWide P w r b0 t v) (h : DataW.Trod enc P w 0 (fun _ => true) true t v d p) :
    ∃ (A : Option Addr) (c : Nat) (rs : List Rw), v = .slice A (rs.length : Nat) c ∧ rs.length ≤ c ∧ c ≤ maxLen ∧ RdR w w.heap.size A rs ∧ SzR rs := by
  obtain ⟨A, c, l, h1, h2, h3, h4, h5⟩ := open_list Rw.cells (Rw.good w) ht c0 (by decide) rwLen (fun n cs y hy => by
    obtain ⟨A, c, l, hcs, hl, hc, hr⟩ := int_of hi hei cei hy
    exact ⟨⟨A, c, l⟩, hcs, hl, hc, hr⟩) hval h
  rw [rw_flat] at h4
  refine ⟨A, c, l, h1, h2, h3, ⟨h4, fun r hr => (h5 r hr).2.2⟩, fun r hr => ?_⟩
  have := (h5 r hr).1
  have := (h5 r hr).2.1
  unfold maxLen at this
  omega
end
theorem two_row {H : Type} {enc : TypeId × Value → H} {w : World} (n : Nat) (cs : List Value) (y : DataW H × List MemPlace) (h : DataW.trod enc Try.prog w 0 (fun _ => true) true n 24 cs = some y) : ∃ p, cs = Pt.cells p ∧ GoodP p :=
  pt_of Try.underlying24 rfl rfl cInt cInt cTwo Try.underlying3 Try.underlying3 h
end Go.Proofs.Ytegehfcnclpdeaa

/-
  PurseDuals: what the walk gives, for every argument and every world that holds the tables. Conditions: the row's own ('laid': the listed tables hold what the program's text lays).
-/
import Derived.Test.YtfmhanpibgmgfaaLwDuals
import Derived.Test.YtfmhanpibgmgfaaLayP
import Derived.Test.YtfmhanpibgmgfaaRows
import Derived.Test.YtfmhanpibgmgfaaPost
import Derived.Deep.DeepHandedRow
namespace Go.Proofs.Ytfmhanpibgmgfaa.purseDuals
open Go.ChangeShapes Go.WideShapes Go.ChangeAt Go.RowKit
open Go.ChangeMaps (open_string)
set_option linter.unusedVariables false

theorem ts : (Try.f8.params.toList.all fun t => Try.prog.readableRec t && decide (t < Try.prog.types.size)) = true := by kernel_rfl
theorem rs : Try.f8.resultTypes = #[4] := by kernel_rfl
set_option maxRecDepth 100000 in
theorem contract (H : Type) (enc : TypeId × Value → H) (W : World) (base : Nat) (args : Array Value) (ds gs : List (DataW H)) (before : List MemPlace)
    (hval : ∀ (j : Nat) t v, Try.f8.params[j]? = some t → args[j]? = some v → Value.okWide Try.prog W .any base t v)
    (hW : DataW.Whole enc Try.prog Try.f8.params.toList Rows.purseDualsSpec.vars false W args.toList ds gs before) (hL : laidMetH Try.prog Rows.purseDualsRow.laid W) :
    Calls Try.prog 8 args W fun e W' => ∃ v, e = .returned v ∧ Rows.purseDualsSpec.post enc Try.prog Try.f8 false true false false W args v W' := by
  have hW' := hW
  obtain ⟨p, q, hA0, hV, rfl, hfz, hnd⟩ := hW
  have hA : DataW.TrodAll enc Try.prog W 0 (fun _ => true) true Try.f8.params.toList args.toList ds p := hA0
  rw [Try.params8] at hA hval
  obtain ⟨v0, vs0, d0, ds0, p0, q0, hargs, rfl, rfl, h0, r0⟩ := trodAll_cons hA
  obtain ⟨v1, vs1, d1, ds1, p1, q1, rfl, rfl, rfl, h1, r1⟩ := trodAll_cons r0
  obtain ⟨rfl, rfl, rfl⟩ := trodAll_nil r1
  obtain rfl : args = #[v0, v1] := by cases args; simp_all
  obtain ⟨rfl, rfl⟩ := trodVars_none hV
  have fin : ∀ (e : Ending) (W' : World), (e = .returned (.bool true) ∧ Below W.heap.size W W') → ∃ v, e = .returned v ∧ Rows.purseDualsSpec.post enc Try.prog Try.f8 false true false false W #[v0, v1] v W' := by
    rintro e W' ⟨rfl, hb⟩
    exact ⟨_, rfl, post_true laidOut ts Try.underlying4 rfl rs hW' ⟨rfl, rfl, rfl⟩ hb⟩
  clear hA0 hW'
  obtain ⟨A0, c0, a0, rfl, le0, cm0, rd0, wf0⟩ := open_rd Try.underlying22 Try.underlying3 cInt (hval 0 22 v0 rfl rfl) h0
  obtain ⟨A1, c1, a1, rfl, le1, cm1, rd1, wf1⟩ := open_rd Try.underlying22 Try.underlying3 cInt (hval 1 22 v1 rfl rfl) h1
  exact (PurseDuals_walk A0 a0 c0 A1 a1 c1 (by unfold maxLen at cm0; omega) (by unfold maxLen at cm1; omega) W rd0 rd1).mono fin
end Go.Proofs.Ytfmhanpibgmgfaa.purseDuals

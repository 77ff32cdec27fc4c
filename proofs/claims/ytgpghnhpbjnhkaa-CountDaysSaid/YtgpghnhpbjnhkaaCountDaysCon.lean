/-
  CountDays: what the walk gives, for every argument and every world that holds the tables. Conditions: the row's own ('laid': the listed tables hold what the program's text lays).
-/
import Derived.Test.YtgpghnhpbjnhkaaLwDays
import Derived.Test.YtgpghnhpbjnhkaaLayC
import Derived.Test.YtgpghnhpbjnhkaaRows
import Derived.Test.YtgpghnhpbjnhkaaPost
import Derived.Deep.DeepHandedRow
namespace Go.Proofs.Ytgpghnhpbjnhkaa.countDays
open Go.ChangeShapes Go.WideShapes Go.ChangeAt Go.RowKit
open Go.ChangeMaps (open_string)
set_option linter.unusedVariables false

theorem ts : (Try.f12.params.toList.all fun t => Try.prog.readableRec t && decide (t < Try.prog.types.size)) = true := by kernel_rfl
theorem rs : Try.f12.resultTypes = #[4] := by kernel_rfl
set_option maxRecDepth 100000 in
theorem contract (H : Type) (enc : TypeId × Value → H) (W : World) (base : Nat) (args : Array Value) (ds gs : List (DataW H)) (before : List MemPlace)
    (hval : ∀ (j : Nat) t v, Try.f12.params[j]? = some t → args[j]? = some v → Value.okWide Try.prog W .any base t v)
    (hW : DataW.Whole enc Try.prog Try.f12.params.toList Rows.countDaysSpec.vars false W args.toList ds gs before) (hL : laidMetH Try.prog Rows.countDaysRow.laid W) :
    Calls Try.prog 12 args W fun e W' => ∃ v, e = .returned v ∧ Rows.countDaysSpec.post enc Try.prog Try.f12 false true false false W args v W' := by
  have hW' := hW
  obtain ⟨p, q, hA0, hV, rfl, hfz, hnd⟩ := hW
  have hA : DataW.TrodAll enc Try.prog W 0 (fun _ => true) true Try.f12.params.toList args.toList ds p := hA0
  rw [Try.params12] at hA hval
  obtain ⟨v0, vs0, d0, ds0, p0, q0, hargs, rfl, rfl, h0, r0⟩ := trodAll_cons hA
  obtain ⟨rfl, rfl, rfl⟩ := trodAll_nil r0
  obtain rfl : args = #[v0] := by cases args; simp_all
  obtain ⟨rfl, rfl⟩ := trodVars_none hV
  have fin : ∀ (e : Ending) (W' : World), (e = .returned (.bool true) ∧ Below W.heap.size W W') → ∃ v, e = .returned v ∧ Rows.countDaysSpec.post enc Try.prog Try.f12 false true false false W #[v0] v W' := by
    rintro e W' ⟨rfl, hb⟩
    exact ⟨_, rfl, post_true laidOut ts Try.underlying4 rfl rs hW' ⟨rfl, rfl, rfl⟩ hb⟩
  clear hA0 hW'
  obtain ⟨A0, c0, a0, rfl, le0, cm0, rd0, gd0⟩ := open_list C3.cells GoodC Try.underlying44 cCt (by decide) c3Len ct_row (hval 0 44 v0 rfl rfl) h0
  exact (Days_walk A0 c0 a0 le0 cm0 W rd0).mono fin
end Go.Proofs.Ytgpghnhpbjnhkaa.countDays

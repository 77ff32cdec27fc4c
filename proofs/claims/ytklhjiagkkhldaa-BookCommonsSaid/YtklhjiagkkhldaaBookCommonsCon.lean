/-
  BookCommons: what the walk gives, for every argument and every world that holds the tables. Conditions: the row's own ('laid': the listed tables hold what the program's text lays).
-/
import Derived.Test.YtklhjiagkkhldaaLwBt3
import Derived.Test.YtklhjiagkkhldaaLayK
import Derived.Test.YtklhjiagkkhldaaRows
import Derived.Test.YtklhjiagkkhldaaPost
import Derived.Deep.DeepHandedRow
namespace Go.Proofs.Ytklhjiagkkhldaa.bookCommons
open Go.ChangeShapes Go.WideShapes Go.ChangeAt Go.RowKit
open Go.ChangeMaps (open_string)
set_option linter.unusedVariables false

theorem ts : (Try.f11.params.toList.all fun t => Try.prog.readableRec t && decide (t < Try.prog.types.size)) = true := by kernel_rfl
theorem rs : Try.f11.resultTypes = #[4] := by kernel_rfl
set_option maxRecDepth 100000 in
theorem contract (H : Type) (enc : TypeId × Value → H) (W : World) (base : Nat) (args : Array Value) (ds gs : List (DataW H)) (before : List MemPlace)
    (hval : ∀ (j : Nat) t v, Try.f11.params[j]? = some t → args[j]? = some v → Value.okWide Try.prog W .any base t v)
    (hW : DataW.Whole enc Try.prog Try.f11.params.toList Rows.bookCommonsSpec.vars false W args.toList ds gs before) (hL : laidMetH Try.prog Rows.bookCommonsRow.laid W) :
    Calls Try.prog 11 args W fun e W' => ∃ v, e = .returned v ∧ Rows.bookCommonsSpec.post enc Try.prog Try.f11 false true false false W args v W' := by
  have hW' := hW
  obtain ⟨p, q, hA0, hV, rfl, hfz, hnd⟩ := hW
  have hA : DataW.TrodAll enc Try.prog W 0 (fun _ => true) true Try.f11.params.toList args.toList ds p := hA0
  rw [Try.params11] at hA hval
  obtain ⟨v0, vs0, d0, ds0, p0, q0, hargs, rfl, rfl, h0, r0⟩ := trodAll_cons hA
  obtain ⟨v1, vs1, d1, ds1, p1, q1, rfl, rfl, rfl, h1, r1⟩ := trodAll_cons r0
  obtain ⟨rfl, rfl, rfl⟩ := trodAll_nil r1
  obtain rfl : args = #[v0, v1] := by cases args; simp_all
  obtain ⟨rfl, rfl⟩ := trodVars_none hV
  have fin : ∀ (e : Ending) (W' : World), (e = .returned (.bool true) ∧ Below W.heap.size W W') → ∃ v, e = .returned v ∧ Rows.bookCommonsSpec.post enc Try.prog Try.f11 false true false false W #[v0, v1] v W' := by
    rintro e W' ⟨rfl, hb⟩
    exact ⟨_, rfl, post_true laidOut ts Try.underlying4 rfl rs hW' ⟨rfl, rfl, rfl⟩ hb⟩
  clear hA0 hW'
  obtain ⟨A0, c0, a0, rfl, le0, cm0, rd0, wf0⟩ := open_rds Try.underlying29 Try.underlying9 cStr (hval 0 29 v0 rfl rfl) h0
  obtain ⟨A1, c1, a1, rfl, le1, cm1, rd1, wf1⟩ := open_rds Try.underlying29 Try.underlying9 cStr (hval 1 29 v1 rfl rfl) h1
  exact (Commons_walk A0 A1 c0 c1 a0 a1 W rd0 wf0 le0 cm0 rd1 wf1 le1 cm1).mono fin
end Go.Proofs.Ytklhjiagkkhldaa.bookCommons

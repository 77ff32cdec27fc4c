/-
  BookUnfolds: what the walk gives, for every argument and every world that holds the tables. Conditions: the row's own ('laid': the listed tables hold what the program's text lays).
-/
import Derived.Test.YtklhjiagkkhldaaLwBt3
import Derived.Test.YtklhjiagkkhldaaLayK
import Derived.Test.YtklhjiagkkhldaaRows
import Derived.Test.YtklhjiagkkhldaaPost
import Derived.Deep.DeepHandedRow
namespace Go.Proofs.Ytklhjiagkkhldaa.bookUnfolds
open Go.ChangeShapes Go.WideShapes Go.ChangeAt Go.RowKit
open Go.ChangeMaps (open_string)
set_option linter.unusedVariables false

theorem ts : (Try.f10.params.toList.all fun t => Try.prog.readableRec t && decide (t < Try.prog.types.size)) = true := by kernel_rfl
theorem rs : Try.f10.resultTypes = #[4] := by kernel_rfl
set_option maxRecDepth 100000 in
theorem contract (H : Type) (enc : TypeId × Value → H) (W : World) (base : Nat) (args : Array Value) (ds gs : List (DataW H)) (before : List MemPlace)
    (hval : ∀ (j : Nat) t v, Try.f10.params[j]? = some t → args[j]? = some v → Value.okWide Try.prog W .any base t v)
    (hW : DataW.Whole enc Try.prog Try.f10.params.toList Rows.bookUnfoldsSpec.vars false W args.toList ds gs before) (hL : laidMetH Try.prog Rows.bookUnfoldsRow.laid W) :
    Calls Try.prog 10 args W fun e W' => ∃ v, e = .returned v ∧ Rows.bookUnfoldsSpec.post enc Try.prog Try.f10 false true false false W args v W' := by
  have hW' := hW
  obtain ⟨p, q, hA0, hV, rfl, hfz, hnd⟩ := hW
  have hA : DataW.TrodAll enc Try.prog W 0 (fun _ => true) true Try.f10.params.toList args.toList ds p := hA0
  rw [Try.params10] at hA hval
  obtain ⟨v0, vs0, d0, ds0, p0, q0, hargs, rfl, rfl, h0, r0⟩ := trodAll_cons hA
  obtain ⟨rfl, rfl, rfl⟩ := trodAll_nil r0
  obtain rfl : args = #[v0] := by cases args; simp_all
  obtain ⟨rfl, rfl⟩ := trodVars_none hV
  have fin : ∀ (e : Ending) (W' : World), (e = .returned (.bool true) ∧ Below W.heap.size W W') → ∃ v, e = .returned v ∧ Rows.bookUnfoldsSpec.post enc Try.prog Try.f10 false true false false W #[v0] v W' := by
    rintro e W' ⟨rfl, hb⟩
    exact ⟨_, rfl, post_true laidOut ts Try.underlying4 rfl rs hW' ⟨rfl, rfl, rfl⟩ hb⟩
  clear hA0 hW'
  obtain ⟨a0, rfl, wf0⟩ := open_rec Gw.cells (Gwfit W) Try.underlying50 gw_row (hval 0 50 v0 rfl rfl) h0
  exact (Unfolds_walk a0.a a0.b a0.d a0.f a0.A a0.c a0.l W wf0.r wf0.lc wf0.cm).mono fin
end Go.Proofs.Ytklhjiagkkhldaa.bookUnfolds

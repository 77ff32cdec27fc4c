/-
  BookChecks: what the walk gives, for every argument and every world that holds the tables. Conditions: the row's own ('laid': the listed tables hold what the program's text lays).
-/
import Derived.Test.YtklhjiagkkhldaaLwBt2
import Derived.Test.YtklhjiagkkhldaaLayK
import Derived.Test.YtklhjiagkkhldaaRows
import Derived.Test.YtklhjiagkkhldaaPost
import Derived.Deep.DeepHandedRow
namespace Go.Proofs.Ytklhjiagkkhldaa.bookChecks
open Go.ChangeShapes Go.WideShapes Go.ChangeAt Go.RowKit
open Go.ChangeMaps (open_string)
set_option linter.unusedVariables false

theorem ts : (Try.f8.params.toList.all fun t => Try.prog.readableRec t && decide (t < Try.prog.types.size)) = true := by kernel_rfl
theorem rs : Try.f8.resultTypes = #[4] := by kernel_rfl
set_option maxRecDepth 100000 in
theorem contract (H : Type) (enc : TypeId × Value → H) (W : World) (base : Nat) (args : Array Value) (ds gs : List (DataW H)) (before : List MemPlace)
    (hval : ∀ (j : Nat) t v, Try.f8.params[j]? = some t → args[j]? = some v → Value.okWide Try.prog W .any base t v)
    (hW : DataW.Whole enc Try.prog Try.f8.params.toList Rows.bookChecksSpec.vars false W args.toList ds gs before) (hL : laidMetH Try.prog Rows.bookChecksRow.laid W) :
    Calls Try.prog 8 args W fun e W' => ∃ v, e = .returned v ∧ Rows.bookChecksSpec.post enc Try.prog Try.f8 false true false false W args v W' := by
  have hW' := hW
  obtain ⟨p, q, hA0, hV, rfl, hfz, hnd⟩ := hW
  have hA : DataW.TrodAll enc Try.prog W 0 (fun _ => true) true Try.f8.params.toList args.toList ds p := hA0
  rw [Try.params8] at hA hval
  obtain ⟨v0, vs0, d0, ds0, p0, q0, hargs, rfl, rfl, h0, r0⟩ := trodAll_cons hA
  obtain ⟨v1, vs1, d1, ds1, p1, q1, rfl, rfl, rfl, h1, r1⟩ := trodAll_cons r0
  obtain ⟨v2, vs2, d2, ds2, p2, q2, rfl, rfl, rfl, h2, r2⟩ := trodAll_cons r1
  obtain ⟨rfl, rfl, rfl⟩ := trodAll_nil r2
  obtain rfl : args = #[v0, v1, v2] := by cases args; simp_all
  obtain ⟨rfl, rfl⟩ := trodVars_none hV
  have fin : ∀ (e : Ending) (W' : World), (e = .returned (.bool true) ∧ Below W.heap.size W W') → ∃ v, e = .returned v ∧ Rows.bookChecksSpec.post enc Try.prog Try.f8 false true false false W #[v0, v1, v2] v W' := by
    rintro e W' ⟨rfl, hb⟩
    exact ⟨_, rfl, post_true laidOut ts Try.underlying4 rfl rs hW' ⟨rfl, rfl, rfl⟩ hb⟩
  clear hA0 hW'
  obtain ⟨a0, rfl, rfl, rfl, wf0⟩ := open_int Try.underlying3 (hval 0 3 v0 rfl rfl) h0
  obtain ⟨a1, rfl, rfl, rfl, sz1⟩ := open_string Try.underlying9 (hval 1 9 v1 rfl rfl) h1
  obtain ⟨a2, rfl, wf2⟩ := open_rec Wy.cells (Wyfit W) Try.underlying41 wy_row (hval 2 41 v2 rfl rfl) h2
  exact (Checks_walk a0 a1 a2.a a2.b a2.d a2.A a2.c a2.l W wf2.r wf2.lc wf2.cm (by have := sz1; unfold maxLen at this; omega)).mono fin
end Go.Proofs.Ytklhjiagkkhldaa.bookChecks

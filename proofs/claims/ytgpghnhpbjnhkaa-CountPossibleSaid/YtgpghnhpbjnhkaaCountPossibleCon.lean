/-
  CountPossible: what the walk gives, for every argument and every world that holds the tables. Conditions: the row's own ('laid': the listed tables hold what the program's text lays).
-/
import Derived.Test.YtgpghnhpbjnhkaaLwPossible
import Derived.Test.YtgpghnhpbjnhkaaLayC
import Derived.Test.YtgpghnhpbjnhkaaRows
import Derived.Test.YtgpghnhpbjnhkaaPost
import Derived.Deep.DeepHandedRow
namespace Go.Proofs.Ytgpghnhpbjnhkaa.countPossible
open Go.ChangeShapes Go.WideShapes Go.ChangeAt Go.RowKit
open Go.ChangeMaps (open_string)
set_option linter.unusedVariables false

theorem ts : (Try.f11.params.toList.all fun t => Try.prog.readableRec t && decide (t < Try.prog.types.size)) = true := by kernel_rfl
theorem rs : Try.f11.resultTypes = #[4] := by kernel_rfl
set_option maxRecDepth 100000 in
theorem contract (H : Type) (enc : TypeId × Value → H) (W : World) (base : Nat) (args : Array Value) (ds gs : List (DataW H)) (before : List MemPlace)
    (hval : ∀ (j : Nat) t v, Try.f11.params[j]? = some t → args[j]? = some v → Value.okWide Try.prog W .any base t v)
    (hW : DataW.Whole enc Try.prog Try.f11.params.toList Rows.countPossibleSpec.vars false W args.toList ds gs before) (hL : laidMetH Try.prog Rows.countPossibleRow.laid W) :
    Calls Try.prog 11 args W fun e W' => ∃ v, e = .returned v ∧ Rows.countPossibleSpec.post enc Try.prog Try.f11 false true false false W args v W' := by
  have hW' := hW
  obtain ⟨p, q, hA0, hV, rfl, hfz, hnd⟩ := hW
  have hA : DataW.TrodAll enc Try.prog W 0 (fun _ => true) true Try.f11.params.toList args.toList ds p := hA0
  rw [Try.params11] at hA hval
  obtain ⟨v0, vs0, d0, ds0, p0, q0, hargs, rfl, rfl, h0, r0⟩ := trodAll_cons hA
  obtain ⟨v1, vs1, d1, ds1, p1, q1, rfl, rfl, rfl, h1, r1⟩ := trodAll_cons r0
  obtain ⟨rfl, rfl, rfl⟩ := trodAll_nil r1
  obtain rfl : args = #[v0, v1] := by cases args; simp_all
  obtain ⟨rfl, rfl⟩ := trodVars_none hV
  have fin : ∀ (e : Ending) (W' : World), (e = .returned (.bool true) ∧ Below W.heap.size W W') → ∃ v, e = .returned v ∧ Rows.countPossibleSpec.post enc Try.prog Try.f11 false true false false W #[v0, v1] v W' := by
    rintro e W' ⟨rfl, hb⟩
    exact ⟨_, rfl, post_true laidOut ts Try.underlying4 rfl rs hW' ⟨rfl, rfl, rfl⟩ hb⟩
  clear hA0 hW'
  obtain ⟨a0, rfl, gd0⟩ := open_rec Q4.cells GoodQ Try.underlying28 bd_row (hval 0 28 v0 rfl rfl) h0
  obtain ⟨a1, rfl, gd1⟩ := open_rec Pt.cells GoodP Try.underlying31 rat_row (hval 1 31 v1 rfl rfl) h1
  exact (Possible_walk a0.b a0.m a0.c a0.a a1.x a1.y W).mono fin
end Go.Proofs.Ytgpghnhpbjnhkaa.countPossible

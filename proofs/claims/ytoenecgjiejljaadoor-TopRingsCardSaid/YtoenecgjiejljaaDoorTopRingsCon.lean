/-
  TopRings: what the walk gives, for every argument and every world that holds the tables. Conditions: the row's own ('laid': the listed tables hold what the program's text lays).
-/
import Derived.Test.YtoenecgjiejljaaDoorMt28
import Derived.Test.YtoenecgjiejljaaDoorMt29
import Derived.Test.YtoenecgjiejljaaDoorMt30
import Derived.Test.YtoenecgjiejljaaDoorRows
import Derived.Deep.DeepHandedRow
namespace Go.Proofs.YtoenecgjiejljaaDoor.topRings
open Go.ChangeShapes Go.WideShapes Go.ChangeAt Go.RowKit
open Go.ChangeMaps (open_string)
set_option linter.unusedVariables false

theorem ts : (Tryd.f9.params.toList.all fun t => Tryd.prog.readableRec t && decide (t < Tryd.prog.types.size)) = true := by kernel_rfl
theorem rs : Tryd.f9.resultTypes = #[4] := by kernel_rfl
set_option maxRecDepth 100000 in
theorem contract (H : Type) (enc : TypeId × Value → H) (W : World) (base : Nat) (args : Array Value) (ds gs : List (DataW H)) (before : List MemPlace)
    (hval : ∀ (j : Nat) t v, Tryd.f9.params[j]? = some t → args[j]? = some v → Value.okWide Tryd.prog W .any base t v)
    (hW : DataW.Whole enc Tryd.prog Tryd.f9.params.toList Rows.topRingsSpec.vars false W args.toList ds gs before) (hL : laidMetH Tryd.prog Rows.topRingsRow.laid W) (hSh : W.ShapedOpen Tryd.prog) :
    Calls Tryd.prog 9 args W fun e W' => ∃ v, e = .returned v ∧ Rows.topRingsSpec.post enc Tryd.prog Tryd.f9 false true false false W args v W' := by
  have hW' := hW
  obtain ⟨p, q, hA0, hV, rfl, hfz, hnd⟩ := hW
  have hA : DataW.TrodAll enc Tryd.prog W 0 (fun _ => true) true Tryd.f9.params.toList args.toList ds p := hA0
  rw [Tryd.params9] at hA hval
  obtain ⟨v0, vs0, d0, ds0, p0, q0, hargs, rfl, rfl, h0, r0⟩ := trodAll_cons hA
  obtain ⟨v1, vs1, d1, ds1, p1, q1, rfl, rfl, rfl, h1, r1⟩ := trodAll_cons r0
  obtain ⟨v2, vs2, d2, ds2, p2, q2, rfl, rfl, rfl, h2, r2⟩ := trodAll_cons r1
  obtain ⟨rfl, rfl, rfl⟩ := trodAll_nil r2
  obtain rfl : args = #[v0, v1, v2] := by cases args; simp_all
  obtain ⟨rfl, rfl⟩ := trodVars_none hV
  have fin : ∀ (e : Ending) (W' : World), (e = .returned (.bool true) ∧ Below W.heap.size W W') → ∃ v, e = .returned v ∧ Rows.topRingsSpec.post enc Tryd.prog Tryd.f9 false true false false W #[v0, v1, v2] v W' := by
    rintro e W' ⟨rfl, hb⟩
    exact ⟨_, rfl, post_true laidOut ts Tryd.underlying4 rfl rs hW' ⟨rfl, rfl, rfl⟩ hb⟩
  clear hA0 hW'
  obtain ⟨a0, rfl, rfl, rfl, sz0⟩ := open_string Tryd.underlying9 (hval 0 9 v0 rfl rfl) h0
  obtain ⟨a1, rfl, rfl, rfl, wf1⟩ := open_int Tryd.underlying3 (hval 1 3 v1 rfl rfl) h1
  obtain ⟨a2, rfl, rfl, rfl, sz2⟩ := open_string Tryd.underlying9 (hval 2 9 v2 rfl rfl) h2
  have hT : TabsR W := tabs_of hL rfl (List.Mem.tail _ (List.Mem.tail _ (List.Mem.tail _ (List.Mem.tail _ (List.Mem.head _))))) (List.Mem.tail _ (List.Mem.tail _ (List.Mem.tail _ (List.Mem.tail _ (List.Mem.tail _ (List.Mem.head _))))))
  have hI : TbI W := tbi_of hL rfl (List.Mem.tail _ (List.Mem.tail _ (List.Mem.head _)))
  have hM : TbM W := tbm_of hSh
  exact ((TopR_walk a0 a1 a2 W hT hI hM sz0 sz2)).mono fin
end Go.Proofs.YtoenecgjiejljaaDoor.topRings

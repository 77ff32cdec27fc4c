/-
  How a rose that came in is opened. No condition.
-/
import Derived.Test.YtnnlbllkckakbaaDoorLay3
import Derived.Test.YtnnlbllkckakbaaDoorWi13
namespace Go.Proofs.YtnnlbllkckakbaaDoor
open Go.RowKit Go.ChangeShapes Go.WideShapes Go.ChangeAt
set_option linter.unusedVariables false

section
variable {H : Type} {enc : TypeId × Value → H} {P : Program}
theorem open_arr32 {t e : TypeId} {r : Reach} {b0 : Nat} {W : World} {v : Value} {d : DataW H} {p : List MemPlace} (ht : P.underlying t = some (.array 32 e)) (he : P.underlying e = some (.int .i64)) (hc : P.cellsOf e = 1) (hct : P.cellsOf t = 32)
    (hval : Value.okWide P W r b0 t v) (h : DataW.Trod enc P W 0 (fun _ => true) true t v d p) : ∃ L, v = .agg (rv L) ∧ Rose L ∧ ∀ n ∈ L, (Lit.int .i64 n).wf = true := by
  simp only [Value.okWide, ht] at hval
  obtain ⟨cs, rfl, hs, _⟩ := hval
  obtain ⟨fuel, hf⟩ := h
  obtain ⟨xs, m, rfl, hx, hlen, hn, hel⟩ := DataW.trod_array ht hf
  have hcl : cs.toList.length = 32 := by rw [← hct, ← hs]; simp
  obtain ⟨L, hL, hR⟩ := list_of (R := fun i (z : Int) => cs.toList[i]? = some (.int .i64 z) ∧ (Lit.int .i64 z).wf = true) 32 fun i hi => by
    have h1 := hel i hi
    rw [hc] at h1
    have hxi : xs[i]? = some (xs[i]'(by omega)) := List.getElem?_eq_getElem (by omega)
    rw [hxi] at h1
    obtain ⟨z, hz, _, wf⟩ := DataW.trod_int he h1
    refine ⟨z, ?_, wf⟩
    have h4 := congrArg (·[0]?) hz
    rw [Nat.mul_one] at h4
    simpa [List.getElem?_take, List.getElem?_drop, Value.cells] using h4
  refine ⟨L, ?_, hL, fun n hn' => ?_⟩
  · have e : cs.toList = ints L := by
      refine List.ext_getElem? fun i => ?_
      rcases Nat.lt_or_ge i 32 with hi | hi
      · have hLi : L[i]? = some (L[i]'(by omega)) := List.getElem?_eq_getElem (by omega)
        rw [(hR i _ hLi).1]
        unfold ints
        rw [List.getElem?_map, hLi]
        rfl
      · rw [List.getElem?_eq_none (by omega), List.getElem?_eq_none (by unfold ints; rw [List.length_map]; omega)]
    unfold rv
    rw [← e]
  · obtain ⟨i, hi, he'⟩ := List.getElem_of_mem hn'
    exact (hR i n (by rw [← he']; exact List.getElem?_eq_getElem hi)).2
end
theorem cRose : Tryd.prog.cellsOf 62 = 32 := by kernel_rfl
end Go.Proofs.YtnnlbllkckakbaaDoor

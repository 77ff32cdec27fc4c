/-
  Texts merged into one (LayR, LayQ): contracts of the functions of package lure, what is reckoned of games. Conditions: as each says.
-/
import Derived.Test.YtoenecgjiejljaaDoorMt20
import Derived.Test.YtoenecgjiejljaaDoorMt29
import Derived.Test.YtoenecgjiejljaaDoorRows
import Derived.Lib.LaidU8
import Derived.LaidLaws
import Derived.Test.YtoenecgjiejljaaDoorMt28
import Derived.Shelf.Vars
namespace Go.Proofs.YtoenecgjiejljaaDoor
open Go.RowKit
set_option linter.unusedVariables false

theorem gPow : Tryd.prog.globalNamed "internal/strconv.uint64pow10" = some 3 := by kernel_rfl
theorem tPow : (Tryd.prog.globals[3]?).map (·.type) = some 196 := by kernel_rfl
theorem cU64 : Tryd.prog.cellsOf 153 = 1 := by kernel_rfl
theorem cTwenty : Tryd.prog.cellsOf 196 = 20 := by kernel_rfl
theorem pow_is {H : Type} : (Rows.laid_internal_strconv_uint64pow10 : DataW H) = Lib.tabData .u64 Lib.pow10Tab := by
  have h : Lib.pow10Tab = [1, 10, 100, 1000, 10000, 100000, 1000000, 10000000, 100000000, 1000000000, 10000000000, 100000000000, 1000000000000, 10000000000000, 100000000000000, 1000000000000000, 10000000000000000, 100000000000000000, 1000000000000000000, 10000000000000000000] := by decide +kernel
  rw [h]
  rfl
theorem var_lt {W : World} {n : String} {g : Nat} {cs : Array Value} (hg : Tryd.prog.globalNamed n = some g) (hv : W.var? Tryd.prog n = some cs) : g < W.heap.size := by
  unfold World.var? at hv
  rw [hg] at hv
  by_cases h : g < W.heap.size
  · exact h
  · rw [Option.bind_some, Array.getElem?_eq_none (by omega)] at hv
    cases hv
theorem tbi_of {l : List (String × DataW Unit)} {W : World} (hL : laidMetH Tryd.prog l W) (hp : (l.filter fun x => x.2.handleName?.isSome) = [])
    (h1 : ("internal/strconv.uint64pow10", Rows.laid_internal_strconv_uint64pow10) ∈ l) : TbI W := by
  unfold laidMetH at hL
  rw [hp] at hL
  obtain ⟨ps, hv, _⟩ := hL
  obtain ⟨g, t, cs, fuel, p, hg, ht, hvar, hd⟩ := Lib.LaidVars_reads hv _ _ h1
  obtain rfl := Option.some.inj (gPow.symm.trans hg)
  obtain rfl := Option.some.inj (tPow.symm.trans ht)
  rw [pow_is] at hd
  have hc := Lib.cells_of_tab (zs := Lib.pow10Tab) (k := .u64) Tryd.underlying196 Tryd.underlying153 cU64 cTwenty hd
  refine ⟨?_, var_lt gPow hvar⟩
  unfold Lib.TabIs
  rw [hvar, ← hc]
end Go.Proofs.YtoenecgjiejljaaDoor
namespace Go.Proofs.YtoenecgjiejljaaDoor
open Go.RowKit
set_option linter.unusedVariables false

theorem tbm_of {W : World} (h : W.ShapedOpen Tryd.prog) : TbM W := by
  obtain ⟨m, hm⟩ := cell_of_shapedOpen_int (P := Tryd.prog) (g := 2) (t := 3) (zero := #[.int .i64 0]) (k := .i64) h (by decide +kernel) (by kernel_rfl) rfl (by kernel_rfl) (by kernel_rfl) Tryd.underlying3
  exact ⟨⟨m, hm⟩, World.block_lt_of_cell? W _ hm⟩
end Go.Proofs.YtoenecgjiejljaaDoor

/-
  What the rows' listed tables give the walks: 'TabsR'.
-/
import Derived.Test.YtoenecgjiejljaaDoorRows
import Derived.Test.YtoenecgjiejljaaDoorPost
import Derived.Test.YtoenecgjiejljaaDoorTab
namespace Go.Proofs.YtoenecgjiejljaaDoor
open Go.RowKit
set_option linter.unusedVariables false

theorem own : ownKnob Tryd.prog.godebug = none := by kernel_rfl
theorem laidOut : laidOutB Tryd.prog = true := by kernel_rfl
theorem gProduct : Tryd.prog.globalNamed "wigeon/ring.product" = some 0 := by kernel_rfl
theorem gTurned : Tryd.prog.globalNamed "wigeon/ring.turned" = some 1 := by kernel_rfl
theorem tProduct : (Tryd.prog.globals[0]?).map (·.type) = some 121 := by kernel_rfl
theorem tTurned : (Tryd.prog.globals[1]?).map (·.type) = some 82 := by kernel_rfl
theorem cInt : Tryd.prog.cellsOf 3 = 1 := by kernel_rfl
theorem cTen : Tryd.prog.cellsOf 82 = 10 := by kernel_rfl

def prodRow (i : Fin 10) : List Int := (List.range 10).map fun (j : Nat) => mulD (i.val : Int) (j : Int)
def trnRow : List Int := [1, 5, 7, 6, 2, 8, 3, 0, 9, 4]
theorem trn_row_fin : ∀ i : Fin 10, trnRow[i.val]? = some (trnD i.val) := by decide +kernel
theorem product_is {H : Type} : (Rows.laid_wigeon_ring_product : DataW H) = .agg ((List.finRange 10).map fun i => Lib.tabData .i64 (prodRow i)) := by
  have h : (List.finRange 10).map (fun i => prodRow i) = [[0, 1, 2, 3, 4, 5, 6, 7, 8, 9], [1, 2, 3, 4, 0, 6, 7, 8, 9, 5], [2, 3, 4, 0, 1, 7, 8, 9, 5, 6], [3, 4, 0, 1, 2, 8, 9, 5, 6, 7], [4, 0, 1, 2, 3, 9, 5, 6, 7, 8],
    [5, 9, 8, 7, 6, 0, 4, 3, 2, 1], [6, 5, 9, 8, 7, 1, 0, 4, 3, 2], [7, 6, 5, 9, 8, 2, 1, 0, 4, 3], [8, 7, 6, 5, 9, 3, 2, 1, 0, 4], [9, 8, 7, 6, 5, 4, 3, 2, 1, 0]] := by decide +kernel
  have h2 : (List.finRange 10).map (fun i => (Lib.tabData .i64 (prodRow i) : DataW H)) = ((List.finRange 10).map (fun i => prodRow i)).map (Lib.tabData .i64) := by simp
  rw [h2, h]
  rfl
theorem tabs_of {l : List (String × DataW Unit)} {W : World} (hL : laidMetH Tryd.prog l W) (hp : (l.filter fun x => x.2.handleName?.isSome) = []) (h1 : ("wigeon/ring.product", Rows.laid_wigeon_ring_product) ∈ l) (h2 : ("wigeon/ring.turned", Rows.laid_wigeon_ring_turned) ∈ l) : TabsR W := by
  unfold laidMetH at hL
  rw [hp] at hL
  obtain ⟨ps, hv, _⟩ := hL
  obtain ⟨g, t, cs, fuel, p, hg, ht, hvar, hd⟩ := Lib.LaidVars_reads hv _ _ h1
  obtain rfl := Option.some.inj (gProduct.symm.trans hg)
  obtain rfl := Option.some.inj (tProduct.symm.trans ht)
  obtain ⟨g', t', cs', fuel', p', hg', ht', hvar', hd'⟩ := Lib.LaidVars_reads hv _ _ h2
  obtain rfl := Option.some.inj (gTurned.symm.trans hg')
  obtain rfl := Option.some.inj (tTurned.symm.trans ht')
  have hc' := Lib.cells_of_tab (zs := trnRow) (k := .i64) Tryd.underlying82 Tryd.underlying3 cInt cTen hd'
  obtain ⟨xs, m, rfl, hx, hlen, hn, hel⟩ := DataW.trod_array Tryd.underlying121 hd
  have hxs : xs.map (·.1) = (List.finRange 10).map fun i => Lib.tabData .i64 (prodRow i) := by
    have := congrArg Prod.fst hx
    rw [product_is] at this
    simpa using this.symm
  have hsz : 2 ≤ W.heap.size := by
    have := World.var?_cell gTurned hvar' 0
    have e : cs'[0]? = cs'.toList[0]? := by simp
    rw [e, hc'] at this
    have := World.block_lt_of_cell? W _ (show W.cell? ⟨1, 0, none⟩ = some (.int .i64 1) by rw [this]; rfl)
    exact this
  have rowAt : ∀ i : Fin 10, (cs.toList.drop (i.val * 10)).take 10 = (prodRow i).map fun z => Value.int .i64 z := by
    intro i
    have h := hel i.val i.isLt
    rw [cTen] at h
    have hi : xs[i.val]? = some (xs[i.val]'(by omega)) := List.getElem?_eq_getElem (by omega)
    have hi1 : (xs[i.val]'(by omega)).1 = Lib.tabData .i64 (prodRow i) := by
      have := congrArg (·[i.val]?) hxs
      simpa [hi] using this
    rw [hi] at h
    have h5 := h.trans (show _ = some (Lib.tabData .i64 (prodRow i), (xs[i.val]'(by omega)).2) by rw [← hi1])
    exact Lib.cells_of_tab Tryd.underlying82 Tryd.underlying3 cInt cTen h5
  refine ⟨fun x y hx0 hx9 hy0 hy9 => ?_, fun x hx0 hx9 => ?_, hsz⟩
  · have hx : Dig x := ⟨hx0, hx9⟩
    have hy : Dig y := ⟨hy0, hy9⟩
    obtain ⟨i, rfl⟩ := hx.fin
    obtain ⟨j, rfl⟩ := hy.fin
    have h := congrArg (·[j.val]?) (rowAt i)
    have hj := j.isLt
    simp only [List.getElem?_take, if_pos hj, List.getElem?_drop, List.getElem?_map, prodRow, List.getElem?_range hj, Option.map_some] at h
    have h3 := World.var?_cell gProduct hvar (i.val * 10 + j.val)
    simp only [Int.toNat_natCast]
    rw [h3, ← h]
    simp
  · have hx : Dig x := ⟨hx0, hx9⟩
    obtain ⟨i, rfl⟩ := hx.fin
    have h3 := World.var?_cell gTurned hvar' i.val
    simp only [Int.toNat_natCast]
    rw [h3]
    have : cs'[i.val]? = cs'.toList[i.val]? := by simp
    rw [this, hc', List.getElem?_map, trn_row_fin i]
    rfl
end Go.Proofs.YtoenecgjiejljaaDoor

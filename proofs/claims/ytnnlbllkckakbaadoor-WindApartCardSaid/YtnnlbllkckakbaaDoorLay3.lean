/-
  What the rows' listed table of names gives the walks: 'Tabs'.
-/
import Derived.Test.YtnnlbllkckakbaaDoorRows
import Derived.Test.YtnnlbllkckakbaaDoorPost
import Derived.Test.YtnnlbllkckakbaaDoorWi3
namespace Go.Proofs.YtnnlbllkckakbaaDoor
open Go.RowKit
set_option linter.unusedVariables false

theorem own : ownKnob Tryd.prog.godebug = none := by kernel_rfl
theorem laidOut : laidOutB Tryd.prog = true := by kernel_rfl
theorem gNames : Tryd.prog.globalNamed "wigeon/wind.names" = some 0 := by kernel_rfl
theorem tNames : (Tryd.prog.globals[0]?).map (·.type) = some 82 := by kernel_rfl
theorem cInt : Tryd.prog.cellsOf 3 = 1 := by kernel_rfl
theorem cStr : Tryd.prog.cellsOf 9 = 1 := by kernel_rfl
theorem c32 : Tryd.prog.cellsOf 82 = 32 := by kernel_rfl
theorem cA : Tryd.prog.cellsOf 23 = 2 := by kernel_rfl
theorem arc_row {H : Type} {enc : TypeId × Value → H} {w : World} (n : Nat) (cs : List Value) (y : DataW H × List MemPlace) (h : DataW.trod enc Tryd.prog w 0 (fun _ => true) true n 23 cs = some y) : ∃ p, cs = Pt.cells p ∧ GoodP p :=
  pt_of Tryd.underlying23 rfl rfl cInt cInt cA Tryd.underlying3 Tryd.underlying3 h
theorem names_is {H : Type} : (Rows.laid_wigeon_wind_names : DataW H) = .agg (nameL.map fun l => .lit (.string l)) := rfl
theorem nameL_length : nameL.length = 32 := rfl
theorem str_eq (s : ByteArray) (l : List UInt8) (h : s.data.toList = l) : s = ⟨l.toArray⟩ := by subst h; rfl
theorem tabs_of {l : List (String × DataW Unit)} {W : World} (hL : laidMetH Tryd.prog l W) (hp : (l.filter fun x => x.2.handleName?.isSome) = []) (h1 : ("wigeon/wind.names", Rows.laid_wigeon_wind_names) ∈ l) : Tabs W := by
  unfold laidMetH at hL
  rw [hp] at hL
  obtain ⟨ps, hv, _⟩ := hL
  obtain ⟨g, t, cs, fuel, p, hg, ht, hvar, hd⟩ := Lib.LaidVars_reads hv _ _ h1
  obtain rfl := Option.some.inj (gNames.symm.trans hg)
  obtain rfl := Option.some.inj (tNames.symm.trans ht)
  obtain ⟨xs, m, rfl, hx, hlen, hn, hel⟩ := DataW.trod_array Tryd.underlying82 hd
  have hxs : xs.map (·.1) = nameL.map fun l => .lit (.string l) := by
    have := congrArg Prod.fst hx
    rw [names_is] at this
    simpa using this.symm
  have rowAt : ∀ i : Nat, i < 32 → cs[i]? = some (.string (nm i)) := by
    intro i hi0
    have h := hel i hi0
    rw [cStr] at h
    have hi : xs[i]? = some (xs[i]'(by omega)) := List.getElem?_eq_getElem (by omega)
    rw [hi] at h
    obtain ⟨s, hs, hx2, _⟩ := DataW.trod_string Tryd.underlying9 h
    have hn2 : nameL[i]? = some (nameL.getD i []) := by
      rw [List.getD_eq_getElem?_getD, List.getElem?_eq_getElem (by rw [nameL_length]; exact hi0)]
      rfl
    have hi1 : (xs[i]'(by omega)).1 = .lit (.string (nameL.getD i [])) := by
      have h5 : (xs.map (·.1))[i]? = (nameL.map fun l => DataW.lit (.string l))[i]? := by rw [hxs]
      rw [List.getElem?_map, List.getElem?_map, hi, hn2] at h5
      exact Option.some.inj h5
    rw [hx2] at hi1
    have hl : s.data.toList = nameL.getD i [] := Lit.string.inj (DataW.lit.inj hi1)
    have he : s = nm i := str_eq s _ hl
    rw [he] at hs
    have h4 := congrArg (·[0]?) hs
    rw [Nat.mul_one] at h4
    simpa [List.getElem?_take, List.getElem?_drop] using h4
  have hc : ∀ i : Nat, i < 32 → W.cell? ⟨0, i, none⟩ = some (.string (nm i)) := fun i hi => by
    rw [World.var?_cell gNames hvar i]
    exact rowAt i hi
  exact ⟨hc, World.block_lt_of_cell? W _ (hc 0 (by omega))⟩
end Go.Proofs.YtnnlbllkckakbaaDoor

/-
  What the rows' listed tables give the walks of books: Tb. No condition.
-/
import Derived.Test.YtoenecgjiejljaaDoorBh5
import Derived.Test.YtoenecgjiejljaaDoorRows
import Derived.Test.YtoenecgjiejljaaDoorPost
import Derived.Lib.LaidU8
import Derived.LaidLaws
namespace Go.Proofs.YtoenecgjiejljaaDoor
open Go.RowKit
set_option linter.unusedVariables false

theorem own : ownKnob Tryd.prog.godebug = none := by kernel_rfl
theorem laidOut : laidOutB Tryd.prog = true := by kernel_rfl
theorem gPow : Tryd.prog.globalNamed "internal/strconv.uint64pow10" = some 3 := by kernel_rfl
theorem gEs : Tryd.prog.globalNamed "strconv.ErrSyntax" = some 8 := by kernel_rfl
theorem gEr : Tryd.prog.globalNamed "strconv.ErrRange" = some 9 := by kernel_rfl
theorem gB64 : Tryd.prog.globalNamed "math/bits.deBruijn64tab" = some 7 := by kernel_rfl
theorem tPow : (Tryd.prog.globals[3]?).map (·.type) = some 196 := by kernel_rfl
theorem tEs : (Tryd.prog.globals[8]?).map (·.type) = some 102 := by kernel_rfl
theorem tEr : (Tryd.prog.globals[9]?).map (·.type) = some 102 := by kernel_rfl
theorem cU64 : Tryd.prog.cellsOf 153 = 1 := by kernel_rfl
theorem cTwenty : Tryd.prog.cellsOf 196 = 20 := by kernel_rfl
theorem pow_is {H : Type} : (Rows.laid_internal_strconv_uint64pow10 : DataW H) = Lib.tabData .u64 Lib.pow10Tab := by
  have h : Lib.pow10Tab = [1, 10, 100, 1000, 10000, 100000, 1000000, 10000000, 100000000, 1000000000, 10000000000, 100000000000, 1000000000000, 10000000000000, 100000000000000, 1000000000000000, 10000000000000000, 100000000000000000, 1000000000000000000, 10000000000000000000] := by decide +kernel
  rw [h]
  rfl
theorem var_lt {W : World} {n : String} {g : Nat} {cs : Array Value} (hg : Tryd.prog.globalNamed n = some g) (hv : W.var? Tryd.prog n = some cs) : g < W.heap.size := by
  unfold World.var? at hv
  rw [hg] at hv
  by_cases h : g < W.heap.size
  · exact h
  · rw [Option.bind_some, Array.getElem?_eq_none (by omega)] at hv
    cases hv
theorem tb_of {l : List (String × DataW Unit)} {W : World} (hL : laidMetH Tryd.prog l W) (hp : (l.filter fun x => x.2.handleName?.isSome) = [])
    (h1 : ("internal/strconv.uint64pow10", Rows.laid_internal_strconv_uint64pow10) ∈ l) (h2 : ("strconv.ErrSyntax", Rows.laid_strconv_ErrSyntax) ∈ l) (h3 : ("strconv.ErrRange", Rows.laid_strconv_ErrRange) ∈ l) (h4 : ("math/bits.deBruijn64tab", Rows.laid_math_bits_deBruijn64tab) ∈ l) : Tb W := by
  unfold laidMetH at hL
  rw [hp] at hL
  obtain ⟨ps, hv, _⟩ := hL
  obtain ⟨g, t, cs, fuel, p, hg, ht, hvar, hd⟩ := Lib.LaidVars_reads hv _ _ h1
  obtain rfl := Option.some.inj (gPow.symm.trans hg)
  obtain rfl := Option.some.inj (tPow.symm.trans ht)
  rw [pow_is] at hd
  have hc := Lib.cells_of_tab (zs := Lib.pow10Tab) (k := .u64) Tryd.underlying196 Tryd.underlying153 cU64 cTwenty hd
  obtain ⟨g2, t2, cs2, fuel2, p2, hg2, ht2, hvar2, hd2⟩ := Lib.LaidVars_reads hv _ _ h2
  obtain rfl := Option.some.inj (gEs.symm.trans hg2)
  obtain rfl := Option.some.inj (tEs.symm.trans ht2)
  obtain ⟨_, u2, v2, hi2, _, _⟩ := iface_of_trod Tryd.underlying102 hd2
  obtain ⟨g3, t3, cs3, fuel3, p3, hg3, ht3, hvar3, hd3⟩ := Lib.LaidVars_reads hv _ _ h3
  obtain rfl := Option.some.inj (gEr.symm.trans hg3)
  obtain rfl := Option.some.inj (tEr.symm.trans ht3)
  obtain ⟨_, u3, v3, hi3, _, _⟩ := iface_of_trod Tryd.underlying102 hd3
  have hlt := (⟨var_lt gPow hvar, var_lt gEs hvar2, var_lt gEr hvar3⟩ : _ ∧ _ ∧ _)
  refine ⟨?_, ⟨.iface u2 v2, ?_, .inr ⟨u2, v2, rfl⟩⟩, ⟨.iface u3 v3, ?_, .inr ⟨u3, v3, rfl⟩⟩, hlt⟩
  · unfold Lib.TabIs
    rw [hvar, ← hc]
  · have := World.var?_cell gEs hvar2 0
    rw [this, ← Array.getElem?_toList, hi2]
    rfl
  · have := World.var?_cell gEr hvar3 0
    rw [this, ← Array.getElem?_toList, hi3]
    rfl
theorem tb_rows {r : List (String × DataW Unit)} {W : World} (hL : laidMetH Tryd.prog r W)
    (hr : r = [("math/bits.deBruijn32tab", Rows.laid_math_bits_deBruijn32tab), ("math/bits.deBruijn64tab", Rows.laid_math_bits_deBruijn64tab), ("internal/strconv.uint64pow10", Rows.laid_internal_strconv_uint64pow10), ("strconv.ErrRange", Rows.laid_strconv_ErrRange), ("strconv.ErrSyntax", Rows.laid_strconv_ErrSyntax)]) : Tb W := by
  subst hr
  exact tb_of hL (by kernel_rfl) (by simp) (by simp) (by simp) (by simp)
/-- A world in which the tables and the two sentinels lie. -/
noncomputable def lowB : Nat := (World.holding Tryd.prog default ⟨#[], #[], []⟩).heap.size
noncomputable def sentinelAt (k : Nat) : Obj → Obj
  | .cells _ t frozen => .cells #[.iface 221 (.pointer (some ⟨k, 0, none⟩))] t frozen
  | o => o
noncomputable def laidSent (os : Os) : World :=
  let w0 := World.holding Tryd.prog os ⟨#[.cells #[.string ⟨#[118, 97, 108, 117, 101, 32, 111, 117, 116, 32, 111, 102, 32, 114, 97, 110, 103, 101]⟩] 223, .cells #[.string ⟨#[105, 110, 118, 97, 108, 105, 100, 32, 115, 121, 110, 116, 97, 120]⟩] 223], #[], []⟩
  { w0 with heap := ((laidHeap [(6, Rows.laid_math_bits_deBruijn32tab), (7, Rows.laid_math_bits_deBruijn64tab), (3, Rows.laid_internal_strconv_uint64pow10)] w0.heap).modify 9 (sentinelAt lowB)).modify 8 (sentinelAt (lowB + 1)) }
end Go.Proofs.YtoenecgjiejljaaDoor

/-
  Texts merged into one (Post, Lay): contracts of the functions of package lure, what is reckoned of games. Conditions: as each says.
-/
import Derived.Test.YtoenecgjiejljaaDoorMt3
import Derived.ProofKit
import Derived.OpenShut
import Derived.Deep.DeepHandedRow
import Derived.Lib.LaidTab
import Derived.Lib.LaidU8
import Derived.Test.YtoenecgjiejljaaDoorRows
import Derived.Test.YtoenecgjiejljaaDoorMt8
namespace Go.Proofs.YtoenecgjiejljaaDoor
open Go.ChangeShapes Go.WideShapes Go.ChangeAt Go.RowKit
open Go.ChangeMaps (open_string)
set_option linter.unusedVariables false

section
variable {H : Type} {enc : TypeId × Value → H} {P : Program}
/-- All arguments read behind the call as they did. -/
theorem trodAll_below {W W' : World} (hl : laidOutB P = true) (hb : Below W.heap.size W W') : ∀ {ts : List TypeId} {vs : List Value} {ds : List (DataW H)} {ps : List MemPlace}, (∀ t ∈ ts, P.readableRec t = true ∧ t < P.types.size) →
    DataW.TrodAll enc P W 0 (fun _ => true) true ts vs ds ps → (∀ x ∈ ps, x.block < W.heap.size) → DataW.TrodAll enc P W' 0 (fun b => decide (b < W.heap.size)) true ts vs ds ps
  | [], [], [], _, _, h, _ => h
  | t :: ts, v :: vs, d :: ds, _, ht, ⟨p, q, h1, h2, e⟩, hp => by
    subst e
    exact ⟨p, q, Below.trod hl (ht t (by simp)).1 (ht t (by simp)).2 h1 hb (fun x hx => hp x (by simp [hx])), trodAll_below hl hb (fun t' ht' => ht t' (by simp [ht'])) h2 (fun x hx => hp x (by simp [hx])), rfl⟩
theorem post_true {f : Func} {s : ChangeSpec} {apart fresh handsOn : Bool} {W W' : World} {args : Array Value} {ds gs : List (DataW H)} {before : List MemPlace} {tb : TypeId}
    (hl : laidOutB P = true) (hts : (f.params.toList.all fun t => P.readableRec t && decide (t < P.types.size)) = true) (htb : P.underlying tb = some .bool) (hvars : s.vars = []) (hres : f.resultTypes = #[tb])
    (hW : DataW.Whole enc P f.params.toList s.vars apart W args.toList ds gs before) (hfn : (s.fn H (ds ++ gs)).results = [.lit (.bool true)] ∧ (s.fn H (ds ++ gs)).args = ds ∧ (s.fn H (ds ++ gs)).vars = []) (hb : Below W.heap.size W W') :
    s.post enc P f apart fresh handsOn false W args (.bool true) W' := by
  have hlt := fun x hx => hW.lt x hx
  have hW0 := hW
  obtain ⟨p, q, hA, hV, hps, _, _⟩ := hW
  rw [hvars] at hV
  obtain ⟨rfl, rfl⟩ := trodVars_none hV
  refine ⟨ds, [], before, [], p, [], hW0, ?_, ?_, ?_, hb.frame _, fun h => by cases h⟩
  · rw [hfn.1, hres]
    exact trodAll_mk1 (shut_bool htb true)
  · rw [hfn.2.1]
    refine trodAll_below hl hb (fun t ht => ?_) hA (fun x hx => hlt x (by rw [hps]; simp [hx]))
    have := List.all_eq_true.1 hts t ht
    simpa using this
  · rw [hvars, hfn.2.2]
    rfl
theorem rd_of_cells {W : World} {a : Addr} {zs : List Int} {len : Nat} (hl : len ≤ zs.length) (h : ∀ i, i < zs.length → W.cell? (a.add i) = some (.int .i64 (zs.getD i 0))) : Rd W W.heap.size (some a) (ints (zs.take len)) := by
  by_cases h0 : 0 < zs.length
  · obtain ⟨b, o, rfl, hc⟩ := _root_.Go.ints_at h h0
    have hlt : b < W.heap.size := World.block_lt_of_cell? W _ (hc 0 h0)
    refine .inr ⟨b, o, rfl, hlt, fun i u hu => ?_⟩
    simp only [ints, List.getElem?_map, Option.map_eq_some_iff] at hu
    obtain ⟨d, hd, rfl⟩ := hu
    rw [List.getElem?_take] at hd
    split at hd
    · have hi := (List.getElem?_eq_some_iff.1 hd).1
      rw [hc i hi]
      simp [List.getD, hd]
    · cases hd
  · have : zs = [] := List.eq_nil_of_length_eq_zero (by omega)
    subst this
    exact .inl (by simp [ints])
/-- A slice of ints that came in. -/
theorem open_rd {t e : TypeId} {r : Reach} {b0 : Nat} {W : World} {v : Value} {d : DataW H} {p : List MemPlace} (ht : P.underlying t = some (.slice e)) (he : P.underlying e = some (.int .i64)) (hc : P.cellsOf e = 1)
    (hval : Value.okWide P W r b0 t v) (h : DataW.Trod enc P W 0 (fun _ => true) true t v d p) :
    ∃ A c l, v = .slice A (l.length : Nat) c ∧ l.length ≤ c ∧ c ≤ maxLen ∧ Rd W W.heap.size A (ints l) ∧ ∀ n ∈ l, (Lit.int .i64 n).wf = true := by
  obtain ⟨a0, len, cap, rfl⟩ := okWide_slice ht hval
  obtain ⟨fuel, hf⟩ := h
  rcases open_ints ht he hc hf with ⟨hcs, _⟩ | ⟨a, len', cap', zs, hcs, _, hl, hm, hz, _, hcell, hw⟩
  · have : a0 = none ∧ len = 0 ∧ cap = 0 := by simpa [Value.cells] using hcs
    obtain ⟨rfl, rfl, rfl⟩ := this
    exact ⟨none, 0, [], rfl, by simp, by simp [maxLen], .inl rfl, by simp⟩
  · have : a0 = some a ∧ len = len' ∧ cap = cap' := by simpa [Value.cells] using hcs
    obtain ⟨rfl, rfl, rfl⟩ := this
    simp only [if_true] at hz
    refine ⟨some a, cap, zs.take len, by simp; omega, by simp; omega, hm, rd_of_cells (by omega) hcell, fun n hn => hw n (List.mem_of_mem_take hn)⟩
end

/-- A table's datum, as the cells that it lies in. -/
def flat : DataW Unit → List Value
  | .lit (.int k z) => [.int k z]
  | .lit (.string l) => [.string ⟨l.toArray⟩]
  | .agg l => flatAll l
  | _ => []
where flatAll : List (DataW Unit) → List Value
  | [] => []
  | d :: r => flat d ++ flatAll r
/-- A start in which the tables hold their data: the settled world, each table's block laid. -/
def relaid (d : DataW Unit) : Obj → Obj
  | .cells _ t fr => .cells (flat d).toArray t fr
  | o => o
noncomputable def laidHeap (L : List (Nat × DataW Unit)) (h : Array Obj) : Array Obj := L.foldl (fun h x => h.modify x.1 (relaid x.2)) h
noncomputable def laidWorld (P : Program) (os : Os) (L : List (Nat × DataW Unit)) : World :=
  { World.holding P os ⟨#[], #[], []⟩ with heap := laidHeap L (World.holding P os ⟨#[], #[], []⟩).heap }
end Go.Proofs.YtoenecgjiejljaaDoor
namespace Go.Proofs.YtoenecgjiejljaaDoor
open Go.RowKit
set_option linter.unusedVariables false

theorem own : ownKnob Tryd.prog.godebug = none := by kernel_rfl
theorem laidOut : laidOutB Tryd.prog = true := by kernel_rfl
theorem gProduct : Tryd.prog.globalNamed "wigeon/ring.product" = some 0 := by kernel_rfl
theorem gTurned : Tryd.prog.globalNamed "wigeon/ring.turned" = some 1 := by kernel_rfl
theorem tProduct : (Tryd.prog.globals[0]?).map (·.type) = some 121 := by kernel_rfl
theorem tTurned : (Tryd.prog.globals[1]?).map (·.type) = some 82 := by kernel_rfl
theorem cInt : Tryd.prog.cellsOf 3 = 1 := by kernel_rfl
theorem cTen : Tryd.prog.cellsOf 82 = 10 := by kernel_rfl

def prodRow (i : Fin 10) : List Int := (List.range 10).map fun (j : Nat) => mulD (i.val : Int) (j : Int)
def trnRow : List Int := [1, 5, 7, 6, 2, 8, 3, 0, 9, 4]
theorem trn_row_fin : ∀ i : Fin 10, trnRow[i.val]? = some (trnD i.val) := by decide +kernel
theorem product_is {H : Type} : (Rows.laid_wigeon_ring_product : DataW H) = .agg ((List.finRange 10).map fun i => Lib.tabData .i64 (prodRow i)) := by
  have h : (List.finRange 10).map (fun i => prodRow i) = [[0, 1, 2, 3, 4, 5, 6, 7, 8, 9], [1, 2, 3, 4, 0, 6, 7, 8, 9, 5], [2, 3, 4, 0, 1, 7, 8, 9, 5, 6], [3, 4, 0, 1, 2, 8, 9, 5, 6, 7], [4, 0, 1, 2, 3, 9, 5, 6, 7, 8],
    [5, 9, 8, 7, 6, 0, 4, 3, 2, 1], [6, 5, 9, 8, 7, 1, 0, 4, 3, 2], [7, 6, 5, 9, 8, 2, 1, 0, 4, 3], [8, 7, 6, 5, 9, 3, 2, 1, 0, 4], [9, 8, 7, 6, 5, 4, 3, 2, 1, 0]] := by decide +kernel
  have h2 : (List.finRange 10).map (fun i => (Lib.tabData .i64 (prodRow i) : DataW H)) = ((List.finRange 10).map (fun i => prodRow i)).map (Lib.tabData .i64) := by simp
  rw [h2, h]
  rfl
theorem tabs_of {l : List (String × DataW Unit)} {W : World} (hL : laidMetH Tryd.prog l W) (hp : (l.filter fun x => x.2.handleName?.isSome) = []) (h1 : ("wigeon/ring.product", Rows.laid_wigeon_ring_product) ∈ l) (h2 : ("wigeon/ring.turned", Rows.laid_wigeon_ring_turned) ∈ l) : TabsR W := by
  unfold laidMetH at hL
  rw [hp] at hL
  obtain ⟨ps, hv, _⟩ := hL
  obtain ⟨g, t, cs, fuel, p, hg, ht, hvar, hd⟩ := Lib.LaidVars_reads hv _ _ h1
  obtain rfl := Option.some.inj (gProduct.symm.trans hg)
  obtain rfl := Option.some.inj (tProduct.symm.trans ht)
  obtain ⟨g', t', cs', fuel', p', hg', ht', hvar', hd'⟩ := Lib.LaidVars_reads hv _ _ h2
  obtain rfl := Option.some.inj (gTurned.symm.trans hg')
  obtain rfl := Option.some.inj (tTurned.symm.trans ht')
  have hc' := Lib.cells_of_tab (zs := trnRow) (k := .i64) Tryd.underlying82 Tryd.underlying3 cInt cTen hd'
  obtain ⟨xs, m, rfl, hx, hlen, hn, hel⟩ := DataW.trod_array Tryd.underlying121 hd
  have hxs : xs.map (·.1) = (List.finRange 10).map fun i => Lib.tabData .i64 (prodRow i) := by
    have := congrArg Prod.fst hx
    rw [product_is] at this
    simpa using this.symm
  have hsz : 2 ≤ W.heap.size := by
    have := World.var?_cell gTurned hvar' 0
    have e : cs'[0]? = cs'.toList[0]? := by simp
    rw [e, hc'] at this
    have := World.block_lt_of_cell? W _ (show W.cell? ⟨1, 0, none⟩ = some (.int .i64 1) by rw [this]; rfl)
    exact this
  have rowAt : ∀ i : Fin 10, (cs.toList.drop (i.val * 10)).take 10 = (prodRow i).map fun z => Value.int .i64 z := by
    intro i
    have h := hel i.val i.isLt
    rw [cTen] at h
    have hi : xs[i.val]? = some (xs[i.val]'(by omega)) := List.getElem?_eq_getElem (by omega)
    have hi1 : (xs[i.val]'(by omega)).1 = Lib.tabData .i64 (prodRow i) := by
      have := congrArg (·[i.val]?) hxs
      simpa [hi] using this
    rw [hi] at h
    have h5 := h.trans (show _ = some (Lib.tabData .i64 (prodRow i), (xs[i.val]'(by omega)).2) by rw [← hi1])
    exact Lib.cells_of_tab Tryd.underlying82 Tryd.underlying3 cInt cTen h5
  refine ⟨fun x y hx0 hx9 hy0 hy9 => ?_, fun x hx0 hx9 => ?_, hsz⟩
  · have hx : Dig x := ⟨hx0, hx9⟩
    have hy : Dig y := ⟨hy0, hy9⟩
    obtain ⟨i, rfl⟩ := hx.fin
    obtain ⟨j, rfl⟩ := hy.fin
    have h := congrArg (·[j.val]?) (rowAt i)
    have hj := j.isLt
    simp only [List.getElem?_take, if_pos hj, List.getElem?_drop, List.getElem?_map, prodRow, List.getElem?_range hj, Option.map_some] at h
    have h3 := World.var?_cell gProduct hvar (i.val * 10 + j.val)
    simp only [Int.toNat_natCast]
    rw [h3, ← h]
    simp
  · have hx : Dig x := ⟨hx0, hx9⟩
    obtain ⟨i, rfl⟩ := hx.fin
    have h3 := World.var?_cell gTurned hvar' i.val
    simp only [Int.toNat_natCast]
    rw [h3]
    have : cs'[i.val]? = cs'.toList[i.val]? := by simp
    rw [this, hc', List.getElem?_map, trn_row_fin i]
    rfl
end Go.Proofs.YtoenecgjiejljaaDoor

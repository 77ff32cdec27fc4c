/-
  strings.Builder: the walks of copyCheck, WriteString, String. Conditions: what they read can be read.
-/
import Derived.Test.YtoenecgjiejljaaDoorGen
import Derived.Test.YtoenecgjiejljaaDoorSlb
import Derived.Test.YtoenecgjiejljaaDoorProg
import Derived.WalkKit
import Derived.Handy
import Derived.Deep.RegionLaw
import Derived.Lib.Builder
import Derived.Lib.AppendStr
import Derived.Lib.UnsafeStr
import Derived.Laws.Externs
namespace Go.Proofs.YtoenecgjiejljaaDoor
open Go.RowKit
set_option linter.unusedVariables false

theorem Tryd.infoU8 : (Tryd.prog.info? 5).map (fun i => (i.zero, i.size, i.bytes)) = some (some (.int .u8 0), 1, 1) := by kernel_rfl
theorem own_geB {w : World} {B n : Nat} {e : TypeId} {v : Value} {xs : List Value} (h : w.ownsRow B e 1 v n xs) : ∀ j, v.ownBlock = some j → B ≤ j := by
  rcases h.2 with ⟨hv, _⟩ | ⟨g, cap, cur, hv, hb, hg, _⟩
  · subst hv; intro j hj; simp [Value.ownBlock] at hj
  · subst hv; intro j hj
    have : g = j := by simpa [Value.ownBlock] using hj
    omega
theorem Tryd.infoBd : (Tryd.prog.info? 100).map (fun i => i.size) = some 2 := by kernel_rfl
theorem Tryd.liesBd : liesAt Tryd.prog Tryd.prog.depth 100 (2 / Tryd.prog.cellsOf 100) 0 100 1 = true := by kernel_rfl
theorem bd_info : ∃ j, Tryd.prog.info? 100 = some j ∧ j.size = 2 := by
  obtain ⟨j, h1, h2⟩ := Option.map_eq_some_iff.1 Tryd.infoBd
  exact ⟨j, h1, h2⟩
/-- A builder of the call's own. -/
abbrev IsBd (B b : Nat) (bs : List Value) (w : World) : Prop := Lib.IsBuilder 100 5 B b bs w
abbrev BdAt (B b : Nat) (p : Value) (bs : List Value) (w : World) : Prop := Lib.BuilderAt 100 5 B b p bs w
set_option maxRecDepth 8000 in
set_option maxHeartbeats 1000000 in
theorem copyCheck_any (B b : Nat) (bs : List Value) (w : World) (h : IsBd B b bs w) :
    Calls Tryd.prog 131 #[.pointer (some ⟨b, 0, none⟩)] w fun e w' => e = .returned (.tuple #[]) ∧ BdAt B b (.pointer (some ⟨b, 0, none⟩)) bs w' ∧ Below B w w' := by
  obtain ⟨j, hj, hj2⟩ := bd_info
  have hne := fun w => Lib.run_neq_ptr_same (P := Tryd.prog) w (tp := 97) (⟨b, 0, none⟩ : Addr) Tryd.underlying97 hj
  rcases h with h | h
  · have HB := Lib.hid h
    have c0 := h.cell0
    have f0 := h.frozen0
    have hsh := h.shape
    have hto := Lib.run_to_unsafe (P := Tryd.prog) w (src := 97) (dst := 173) (⟨b, 0, none⟩ : Addr) Tryd.underlying97 Tryd.underlying173 hj (by omega) hsh (show 0 < 2 by decide)
    have hfrom := Lib.run_from_unsafe (P := Tryd.prog) w (src := 173) (dst := 97) (⟨b, 0, none⟩ : Addr) Tryd.underlying173 Tryd.underlying97 hj hsh Tryd.liesBd
    have c1 := (h.used (.pointer (some ⟨b, 0, none⟩))).cell0
    have HU := Lib.hid (h.used (.pointer (some ⟨b, 0, none⟩)))
    have HBB := Lib.hid h.1
    clear h hsh hj hj2
    go_enter Tryd.func131, Tryd.ntmps131
    go_wp2
    rw [run_callFunc_extern Tryd.func179 (by kernel_rfl) (by kernel_rfl) (by kernel_rfl) (e := Extern.AbiNoEscape.same) (by kernel_rfl), Lib.run_noEscape]
    simp only [Result.andThen]
    rw [Oper.upon_value]
    go_wp2
    refine bodyPost_end (results_none rfl _ _ _) rfl ⟨rfl, HU.out, (Below.refl B w).setCell (p := ⟨b, 0, none⟩) HBB.out _⟩
  · have HB := Lib.hid h
    have c0 := h.cell0
    clear h hj hj2
    go_enter Tryd.func131, Tryd.ntmps131
    go_wp2
    refine bodyPost_end (results_none rfl _ _ _) rfl ⟨rfl, HB.out, Below.refl _ _⟩
/-- The bytes of a text, as cells. -/
theorem strCells_bl (s : ByteArray) : Lib.strCells s = Lib.byteCells (bl s) := rfl
theorem byteCells_append (a b : List UInt8) : Lib.byteCells (a ++ b) = Lib.byteCells a ++ Lib.byteCells b := by simp [Lib.byteCells]
theorem slice_of_own {w : World} {B n : Nat} {e : TypeId} {v : Value} {xs : List Value} (h : w.ownsRow B e 1 v n xs) : ∃ ao n' cap, v = .slice ao n' cap := by
  rcases h.2 with ⟨hv, _⟩ | ⟨g, cap, cur, hv, _⟩
  · exact ⟨_, _, _, hv⟩
  · exact ⟨_, _, _, hv⟩
set_option maxRecDepth 8000 in
set_option maxHeartbeats 1000000 in
theorem WriteString_any (B b : Nat) (l : List UInt8) (s : ByteArray) (w : World) (h : IsBd B b (Lib.byteCells l) w) (hlen : l.length + s.size ≤ 100000) (hB : B ≤ w.heap.size) :
    Calls Tryd.prog 88 #[.pointer (some ⟨b, 0, none⟩), .string s] w fun e w' => e = .returned (.tuple #[.int .i64 s.size, .nilIface]) ∧ IsBd B b (Lib.byteCells (l ++ bl s)) w' ∧ Below B w w' := by
  obtain ⟨i0, hi, hz0, hz1, hz2⟩ := info_parts Tryd.infoU8
  have HC := Lib.hid (copyCheck_any B b _ w h)
  clear h
  go_enter Tryd.func88, Tryd.ntmps88
  go_wp2_with fail
  refine HC.out.mono ?_
  rintro e w1 ⟨rfl, h1, hb1⟩
  obtain ⟨hBb, v, hbk, hown, hne⟩ := h1
  have B1 := Lib.hid hb1
  have c1 := (blk_cell (j := 1) hbk).trans (show _ = some v from rfl)
  have hlb := lt_of_block hbk
  have HK := Lib.hid hbk
  have HO := Lib.hid hown
  have HNE := Lib.hid hne
  rw [Lib.byteCells_length] at hown
  have HO2 := Lib.hid hown
  clear hb1 hbk hown hne
  go_wp2_with ((with_reducible show wpList _ _ _ (⟨some 14, _, _, _, _, _⟩ :: _) _ _); refine Lib.wpList_append_own_string _ rfl _ _ 98 9 rfl B 5 i0 Tryd.underlying98 Tryd.underlying9 hi hz0 hz1 hz2 _ _ _ rfl HO2.out s rfl (by unfold maxLen; omega) (by omega) (by have := B1.out.size; omega) ?_; intro v' w2 hown' hgrow _; obtain ⟨ao, n', cap, rfl⟩ := slice_of_own hown'; have K2 := (hgrow.block b hlb fun e => HNE.out e.symm).trans HK.out; have d1 := (blk_cell (j := 1) K2).trans (show _ = some v from rfl); have f1 := blk_free K2 1; have HO3 := Lib.hid hown'; have HK2 := Lib.hid K2; have G2 := Lib.hid hgrow; clear hown' hgrow K2)
  go_ret2
  have hlen2 : (Lib.byteCells (l ++ bl s)).length = l.length + s.size := by rw [Lib.byteCells_length, List.length_append, bl_len]
  refine ⟨rfl, .inr (Lib.BuilderAt.put hBb HK2.out (by rw [hlen2, byteCells_append]; exact HO3.out) (by decide)), ?_⟩
  exact (B1.out.grown G2.out (by have := B1.out.size; omega) fun q hq => (own_geB HO.out q hq)).setCell (p := ⟨b, 1, none⟩) hBb _
theorem cellsU8 : Tryd.prog.cellsOf 5 = 1 := by kernel_rfl
set_option maxRecDepth 8000 in
set_option maxHeartbeats 1000000 in
theorem BString_any (B b : Nat) (l : List UInt8) (w : World) (h : IsBd B b (Lib.byteCells l) w) (h0 : l ≠ []) :
    Calls Tryd.prog 92 #[.pointer (some ⟨b, 0, none⟩)] w fun e w' => e = .returned (.string (sL l)) ∧ Below B w w' := by
  obtain ⟨p, hBb, v, hbk, hown, hne⟩ : ∃ p, BdAt B b p (Lib.byteCells l) w := by
    rcases h with h | h
    · exact ⟨_, h⟩
    · exact ⟨_, h⟩
  have hl0 : 0 < l.length := List.length_pos_iff.2 h0
  rw [Lib.byteCells_length] at hown
  rcases hown.2 with ⟨_, hz⟩ | ⟨g, cap, cur, rfl, hbg, hg, hnc, hcm, hcs, htake⟩
  · omega
  have c1 := (blk_cell (j := 1) hbk).trans (show _ = some (.slice (some ⟨g, 0, none⟩) l.length cap) from rfl)
  have hsd : ∀ w, (Builtin.unsafeSliceData_ #[98] 137 #[.slice (some ⟨g, 0, none⟩) l.length cap]).run Tryd.prog w = .ok (.pointer (some ⟨g, 0, none⟩)) w := fun w => Lib.run_unsafeSliceData_row _ _ _ _ _ _ (by omega)
  have hus : (Builtin.unsafeString_ #[137, 3] 9 #[.pointer (some ⟨g, 0, none⟩), .int .i64 l.length]).run Tryd.prog w.drew = .ok (.string (sL l)) (w.drew.freeze ⟨g, 0, none⟩ l.length) := by
    refine Lib.run_unsafeString_row w.drew 137 3 9 5 Tryd.underlying137 cellsU8 g cur.size ?_ l h0 (by omega) (by unfold maxLen at hcm; omega) ?_
    · have hg' : w.drew.heap[g]? = some (.cells cur 5 (0, 0)) := hg
      simp [World.shape?, hg']
    · intro j x hx
      have := hown.cells (g := g) rfl j (.int .u8 x.toNat) (by simp [Lib.byteCells, hx])
      exact this
  have HX := Lib.hid (show Below B w (w.drew.freeze ⟨g, 0, none⟩ l.length) from Lib.below_freeze (Below.drew (Below.refl B w)) (p := ⟨g, 0, none⟩) hbg _)
  clear h hown hne hbk hg hnc hcm hcs htake hl0 h0
  go_enter Tryd.func92, Tryd.ntmps92
  go_wp2_with fail
  go_region
  all_goals (go_wp2; go_ret; exact ⟨rfl, HX.out⟩)
set_option maxRecDepth 8000 in
set_option maxHeartbeats 1000000 in
theorem BString_nil (B b : Nat) (p : Value) (w : World) (hbk : w.heap[b]? = some (.cells #[p, .slice none 0 0] 100 (0, 0))) :
    Calls Tryd.prog 92 #[.pointer (some ⟨b, 0, none⟩)] w fun e w' => e = .returned (.string ⟨#[]⟩) ∧ Below B w w' := by
  have c1 := (blk_cell (j := 1) hbk).trans (show _ = some (.slice none 0 0) from rfl)
  have hsd : ∀ w, (Builtin.unsafeSliceData_ #[98] 137 #[.slice none 0 0]).run Tryd.prog w = .ok (.pointer none) w := fun w => Lib.run_unsafeSliceData_nil _ _ _ _ _
  have hus : ∀ w, (Builtin.unsafeString_ #[137, 3] 9 #[.pointer none, .int .i64 0]).run Tryd.prog w = .ok (.string ⟨#[]⟩) w := fun w => Lib.run_unsafeString_none _ _ _ _ _
  clear hbk
  go_enter Tryd.func92, Tryd.ntmps92
  go_wp2_with fail
  go_region
  all_goals (go_wp2; go_ret; exact ⟨rfl, (Below.refl B w).drew⟩)
end Go.Proofs.YtoenecgjiejljaaDoor

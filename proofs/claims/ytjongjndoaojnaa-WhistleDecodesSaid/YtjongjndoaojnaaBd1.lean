/-
  How a message sounds: the walks of copyCheck, WriteString, String, soundOf. Conditions: what they read can be read.
-/
import Derived.Test.YtjongjndoaojnaaAl2
import Derived.Lib.Builder
import Derived.Lib.AppendStr
import Derived.Lib.UnsafeStr
import Derived.Laws.Externs
namespace Go.Proofs.Ytjongjndoaojnaa
open Go.RowKit
set_option linter.unusedVariables false

theorem Try.infoBd : (Try.prog.info? 94).map (fun i => i.size) = some 2 := by kernel_rfl
theorem Try.liesBd : liesAt Try.prog Try.prog.depth 94 (2 / Try.prog.cellsOf 94) 0 94 1 = true := by kernel_rfl
theorem bd_info : ∃ j, Try.prog.info? 94 = some j ∧ j.size = 2 := by
  obtain ⟨j, h1, h2⟩ := Option.map_eq_some_iff.1 Try.infoBd
  exact ⟨j, h1, h2⟩
/-- A builder of the call's own. -/
abbrev IsBd (B b : Nat) (bs : List Value) (w : World) : Prop := Lib.IsBuilder 94 5 B b bs w
abbrev BdAt (B b : Nat) (p : Value) (bs : List Value) (w : World) : Prop := Lib.BuilderAt 94 5 B b p bs w
set_option maxRecDepth 8000 in
set_option maxHeartbeats 1000000 in
theorem copyCheck_any (B b : Nat) (bs : List Value) (w : World) (h : IsBd B b bs w) :
    Calls Try.prog 104 #[.pointer (some ⟨b, 0, none⟩)] w fun e w' => e = .returned (.tuple #[]) ∧ BdAt B b (.pointer (some ⟨b, 0, none⟩)) bs w' ∧ Below B w w' := by
  obtain ⟨j, hj, hj2⟩ := bd_info
  have hne := fun w => Lib.run_neq_ptr_same (P := Try.prog) w (tp := 91) (⟨b, 0, none⟩ : Addr) Try.underlying91 hj
  rcases h with h | h
  · have HB := Lib.hid h
    have c0 := h.cell0
    have f0 := h.frozen0
    have hsh := h.shape
    have hto := Lib.run_to_unsafe (P := Try.prog) w (src := 91) (dst := 128) (⟨b, 0, none⟩ : Addr) Try.underlying91 Try.underlying128 hj (by omega) hsh (show 0 < 2 by decide)
    have hfrom := Lib.run_from_unsafe (P := Try.prog) w (src := 128) (dst := 91) (⟨b, 0, none⟩ : Addr) Try.underlying128 Try.underlying91 hj hsh Try.liesBd
    have c1 := (h.used (.pointer (some ⟨b, 0, none⟩))).cell0
    have HU := Lib.hid (h.used (.pointer (some ⟨b, 0, none⟩)))
    have HBB := Lib.hid h.1
    clear h hsh hj hj2
    go_enter Try.func104, Try.ntmps104
    go_wp2
    rw [run_callFunc_extern Try.func121 (by kernel_rfl) (by kernel_rfl) (by kernel_rfl) (e := Extern.AbiNoEscape.same) (by kernel_rfl), Lib.run_noEscape]
    simp only [Result.andThen]
    rw [Oper.upon_value]
    go_wp2
    refine bodyPost_end (results_none rfl _ _ _) rfl ⟨rfl, HU.out, (Below.refl B w).setCell (p := ⟨b, 0, none⟩) HBB.out _⟩
  · have HB := Lib.hid h
    have c0 := h.cell0
    clear h hj hj2
    go_enter Try.func104, Try.ntmps104
    go_wp2
    refine bodyPost_end (results_none rfl _ _ _) rfl ⟨rfl, HB.out, Below.refl _ _⟩
/-- The bytes of a text, as cells. -/
theorem strCells_bl (s : ByteArray) : Lib.strCells s = Lib.byteCells (bl s) := rfl
theorem byteCells_append (a b : List UInt8) : Lib.byteCells (a ++ b) = Lib.byteCells a ++ Lib.byteCells b := by simp [Lib.byteCells]
theorem slice_of_own {w : World} {B n : Nat} {e : TypeId} {v : Value} {xs : List Value} (h : w.ownsRow B e 1 v n xs) : ∃ ao n' cap, v = .slice ao n' cap := by
  rcases h.2 with ⟨hv, _⟩ | ⟨g, cap, cur, hv, _⟩
  · exact ⟨_, _, _, hv⟩
  · exact ⟨_, _, _, hv⟩
set_option maxRecDepth 8000 in
set_option maxHeartbeats 1000000 in
theorem WriteString_any (B b : Nat) (l : List UInt8) (s : ByteArray) (w : World) (h : IsBd B b (Lib.byteCells l) w) (hlen : l.length + s.size ≤ 100000) (hB : B ≤ w.heap.size) :
    Calls Try.prog 89 #[.pointer (some ⟨b, 0, none⟩), .string s] w fun e w' => e = .returned (.tuple #[.int .i64 s.size, .nilIface]) ∧ IsBd B b (Lib.byteCells (l ++ bl s)) w' ∧ Below B w w' := by
  obtain ⟨i0, hi, hz0, hz1, hz2⟩ := info_parts Try.infoU8
  have HC := Lib.hid (copyCheck_any B b _ w h)
  clear h
  go_enter Try.func89, Try.ntmps89
  go_wp2_with fail
  refine HC.out.mono ?_
  rintro e w1 ⟨rfl, h1, hb1⟩
  obtain ⟨hBb, v, hbk, hown, hne⟩ := h1
  have B1 := Lib.hid hb1
  have c1 := (blk_cell (j := 1) hbk).trans (show _ = some v from rfl)
  have hlb := lt_of_block hbk
  have HK := Lib.hid hbk
  have HO := Lib.hid hown
  have HNE := Lib.hid hne
  rw [Lib.byteCells_length] at hown
  have HO2 := Lib.hid hown
  clear hb1 hbk hown hne
  go_wp2_with ((with_reducible show wpList _ _ _ (⟨some 14, _, _, _, _, _⟩ :: _) _ _); refine Lib.wpList_append_own_string _ rfl _ _ 92 9 rfl B 5 i0 Try.underlying92 Try.underlying9 hi hz0 hz1 hz2 _ _ _ rfl HO2.out s rfl (by unfold maxLen; omega) (by omega) (by have := B1.out.size; omega) ?_; intro v' w2 hown' hgrow _; obtain ⟨ao, n', cap, rfl⟩ := slice_of_own hown'; have K2 := (hgrow.block b hlb fun e => HNE.out e.symm).trans HK.out; have d1 := (blk_cell (j := 1) K2).trans (show _ = some v from rfl); have f1 := blk_free K2 1; have HO3 := Lib.hid hown'; have HK2 := Lib.hid K2; have G2 := Lib.hid hgrow; clear hown' hgrow K2)
  go_ret2
  have hlen2 : (Lib.byteCells (l ++ bl s)).length = l.length + s.size := by rw [Lib.byteCells_length, List.length_append, bl_len]
  refine ⟨rfl, .inr (Lib.BuilderAt.put hBb HK2.out (by rw [hlen2, byteCells_append]; exact HO3.out) (by decide)), ?_⟩
  exact (B1.out.grown G2.out (by have := B1.out.size; omega) fun q hq => (own_ge HO.out q hq).1).setCell (p := ⟨b, 1, none⟩) hBb _
end Go.Proofs.Ytjongjndoaojnaa

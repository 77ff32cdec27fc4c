/-
  How a message sounds: the walks of String, soundOf. Conditions: what they read can be read.
-/
import Derived.Test.YtjongjndoaojnaaBd1
import Derived.Deep.RegionLaw
namespace Go.Proofs.Ytjongjndoaojnaa
open Go.RowKit
set_option linter.unusedVariables false

theorem cellsU8 : Try.prog.cellsOf 5 = 1 := by kernel_rfl
set_option maxRecDepth 8000 in
set_option maxHeartbeats 1000000 in
theorem BString_any (B b : Nat) (l : List UInt8) (w : World) (h : IsBd B b (Lib.byteCells l) w) (h0 : l ≠ []) :
    Calls Try.prog 90 #[.pointer (some ⟨b, 0, none⟩)] w fun e w' => e = .returned (.string (ofL l)) ∧ Below B w w' := by
  obtain ⟨p, hBb, v, hbk, hown, hne⟩ : ∃ p, BdAt B b p (Lib.byteCells l) w := by
    rcases h with h | h
    · exact ⟨_, h⟩
    · exact ⟨_, h⟩
  have hl0 : 0 < l.length := List.length_pos_iff.2 h0
  rw [Lib.byteCells_length] at hown
  rcases hown.2 with ⟨_, hz⟩ | ⟨g, cap, cur, rfl, hbg, hg, hnc, hcm, hcs, htake⟩
  · omega
  have c1 := (blk_cell (j := 1) hbk).trans (show _ = some (.slice (some ⟨g, 0, none⟩) l.length cap) from rfl)
  have hsd : ∀ w, (Builtin.unsafeSliceData_ #[92] 111 #[.slice (some ⟨g, 0, none⟩) l.length cap]).run Try.prog w = .ok (.pointer (some ⟨g, 0, none⟩)) w := fun w => Lib.run_unsafeSliceData_row _ _ _ _ _ _ (by omega)
  have hus : (Builtin.unsafeString_ #[111, 3] 9 #[.pointer (some ⟨g, 0, none⟩), .int .i64 l.length]).run Try.prog w.drew = .ok (.string (ofL l)) (w.drew.freeze ⟨g, 0, none⟩ l.length) := by
    refine Lib.run_unsafeString_row w.drew 111 3 9 5 Try.underlying111 cellsU8 g cur.size ?_ l h0 (by omega) (by unfold maxLen at hcm; omega) ?_
    · have hg' : w.drew.heap[g]? = some (.cells cur 5 (0, 0)) := hg
      simp [World.shape?, hg']
    · intro j x hx
      have := hown.cells (g := g) rfl j (.int .u8 x.toNat) (by simp [Lib.byteCells, hx])
      exact this
  have HX := Lib.hid (show Below B w (w.drew.freeze ⟨g, 0, none⟩ l.length) from Lib.below_freeze (Below.drew (Below.refl B w)) (p := ⟨g, 0, none⟩) hbg _)
  clear h hown hne hbk hg hnc hcm hcs htake hl0 h0
  go_enter Try.func90, Try.ntmps90
  go_wp2_with fail
  go_region
  all_goals (go_wp2; go_ret; exact ⟨rfl, HX.out⟩)
set_option maxRecDepth 8000 in
set_option maxHeartbeats 1000000 in
theorem BString_nil (B b : Nat) (p : Value) (w : World) (hbk : w.heap[b]? = some (.cells #[p, .slice none 0 0] 94 (0, 0))) :
    Calls Try.prog 90 #[.pointer (some ⟨b, 0, none⟩)] w fun e w' => e = .returned (.string ⟨#[]⟩) ∧ Below B w w' := by
  have c1 := (blk_cell (j := 1) hbk).trans (show _ = some (.slice none 0 0) from rfl)
  have hsd : ∀ w, (Builtin.unsafeSliceData_ #[92] 111 #[.slice none 0 0]).run Try.prog w = .ok (.pointer none) w := fun w => Lib.run_unsafeSliceData_nil _ _ _ _ _
  have hus : ∀ w, (Builtin.unsafeString_ #[111, 3] 9 #[.pointer none, .int .i64 0]).run Try.prog w = .ok (.string ⟨#[]⟩) w := fun w => Lib.run_unsafeString_none _ _ _ _ _
  clear hbk
  go_enter Try.func90, Try.ntmps90
  go_wp2_with fail
  go_region
  all_goals (go_wp2; go_ret; exact ⟨rfl, (Below.refl B w).drew⟩)
end Go.Proofs.Ytjongjndoaojnaa

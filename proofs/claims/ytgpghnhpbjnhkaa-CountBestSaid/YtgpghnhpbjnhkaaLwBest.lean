/-
  CountBest: the walk. Every argument.
-/
import Derived.Test.YtgpghnhpbjnhkaaCc6
namespace Go.Proofs.Ytgpghnhpbjnhkaa
open Go.RowKit
set_option linter.unusedVariables false

set_option maxRecDepth 8000 in
set_option maxHeartbeats 4000000 in
theorem Best_walk (b m c a : Int) (w : World) : Calls Try.prog 7 #[.agg (rc b m c a)] w fun e w' => e = .returned (.bool true) ∧ Below w.heap.size w w' := by
  have HKN := Lib.hid known_any
  have H1 := Lib.hid (fun w => Best_any m c a w)
  have H2 := Lib.hid (fun w => rBest_any m c a w)
  generalize beV m c a = x at *
  generalize beK m c a = k at *
  generalize beE m c a = E at *
  cases k
  · have B0 := Lib.hid (Below.refl w.heap.size w)
    go_enter Try.func7, Try.ntmps7
    have B1 := Lib.hid (B0.out.alloc B0.out.size (.cells (rc b m c a) 28))
    have gx := heap_alloc_new w (.cells (rc b m c a) 28)
    have x0 := (blk_cell (j := 0) gx).trans (show _ = some (.int .i64 b) from rfl)
    have x1 := (blk_cell (j := 1) gx).trans (show _ = some (.int .i64 m) from rfl)
    have x2 := (blk_cell (j := 2) gx).trans (show _ = some (.int .i64 c) from rfl)
    have x3 := (blk_cell (j := 3) gx).trans (show _ = some (.int .i64 a) from rfl)
    have Gx := Lib.hid gx
    clear gx
    go_wp2_with fail
    refine (H1.out (w.alloc (.cells (rc b m c a) 28))).mono ?_
    rintro e w2 ⟨rfl, hb⟩
    have B2 := Lib.hid (B1.out.trans (hb.mono B1.out.size))
    have gx := (hb.block _ (lt_of_block Gx.out)).trans Gx.out
    clear x0 x1 x2 x3
    have x0 := (blk_cell (j := 0) gx).trans (show _ = some (.int .i64 b) from rfl)
    have x1 := (blk_cell (j := 1) gx).trans (show _ = some (.int .i64 m) from rfl)
    have x2 := (blk_cell (j := 2) gx).trans (show _ = some (.int .i64 c) from rfl)
    have x3 := (blk_cell (j := 3) gx).trans (show _ = some (.int .i64 a) from rfl)
    have Gx := Lib.hid gx
    clear hb gx
    go_wp2_with fail
    refine (H2.out w2).mono ?_
    rintro e w3 ⟨rfl, hb⟩
    have B3 := Lib.hid (B2.out.trans (hb.mono B2.out.size))
    have gx := (hb.block _ (lt_of_block Gx.out)).trans Gx.out
    clear x0 x1 x2 x3
    have x0 := (blk_cell (j := 0) gx).trans (show _ = some (.int .i64 b) from rfl)
    have x1 := (blk_cell (j := 1) gx).trans (show _ = some (.int .i64 m) from rfl)
    have x2 := (blk_cell (j := 2) gx).trans (show _ = some (.int .i64 c) from rfl)
    have x3 := (blk_cell (j := 3) gx).trans (show _ = some (.int .i64 a) from rfl)
    have Gx := Lib.hid gx
    clear hb gx
    go_wp2_with fail
    refine (HKN.out w3).mono ?_
    rintro e w4 ⟨rfl, hb⟩
    have B4 := Lib.hid (B3.out.trans (hb.mono B3.out.size))
    have gx := (hb.block _ (lt_of_block Gx.out)).trans Gx.out
    clear x0 x1 x2 x3
    have x0 := (blk_cell (j := 0) gx).trans (show _ = some (.int .i64 b) from rfl)
    have x1 := (blk_cell (j := 1) gx).trans (show _ = some (.int .i64 m) from rfl)
    have x2 := (blk_cell (j := 2) gx).trans (show _ = some (.int .i64 c) from rfl)
    have x3 := (blk_cell (j := 3) gx).trans (show _ = some (.int .i64 a) from rfl)
    have Gx := Lib.hid gx
    clear hb gx
    go_wp2_with fail
    go_ret
    exact ⟨rfl, B4.out⟩
  · have B0 := Lib.hid (Below.refl w.heap.size w)
    go_enter Try.func7, Try.ntmps7
    have B1 := Lib.hid (B0.out.alloc B0.out.size (.cells (rc b m c a) 28))
    have gx := heap_alloc_new w (.cells (rc b m c a) 28)
    have x0 := (blk_cell (j := 0) gx).trans (show _ = some (.int .i64 b) from rfl)
    have x1 := (blk_cell (j := 1) gx).trans (show _ = some (.int .i64 m) from rfl)
    have x2 := (blk_cell (j := 2) gx).trans (show _ = some (.int .i64 c) from rfl)
    have x3 := (blk_cell (j := 3) gx).trans (show _ = some (.int .i64 a) from rfl)
    have Gx := Lib.hid gx
    clear gx
    go_wp2_with fail
    refine (H1.out (w.alloc (.cells (rc b m c a) 28))).mono ?_
    rintro e w2 ⟨rfl, hb⟩
    have B2 := Lib.hid (B1.out.trans (hb.mono B1.out.size))
    have gx := (hb.block _ (lt_of_block Gx.out)).trans Gx.out
    clear x0 x1 x2 x3
    have x0 := (blk_cell (j := 0) gx).trans (show _ = some (.int .i64 b) from rfl)
    have x1 := (blk_cell (j := 1) gx).trans (show _ = some (.int .i64 m) from rfl)
    have x2 := (blk_cell (j := 2) gx).trans (show _ = some (.int .i64 c) from rfl)
    have x3 := (blk_cell (j := 3) gx).trans (show _ = some (.int .i64 a) from rfl)
    have Gx := Lib.hid gx
    clear hb gx
    go_wp2_with fail
    refine (H2.out w2).mono ?_
    rintro e w3 ⟨rfl, hb⟩
    have B3 := Lib.hid (B2.out.trans (hb.mono B2.out.size))
    have gx := (hb.block _ (lt_of_block Gx.out)).trans Gx.out
    clear x0 x1 x2 x3
    have x0 := (blk_cell (j := 0) gx).trans (show _ = some (.int .i64 b) from rfl)
    have x1 := (blk_cell (j := 1) gx).trans (show _ = some (.int .i64 m) from rfl)
    have x2 := (blk_cell (j := 2) gx).trans (show _ = some (.int .i64 c) from rfl)
    have x3 := (blk_cell (j := 3) gx).trans (show _ = some (.int .i64 a) from rfl)
    have Gx := Lib.hid gx
    clear hb gx
    go_wp2_with fail
    refine (HKN.out w3).mono ?_
    rintro e w4 ⟨rfl, hb⟩
    have B4 := Lib.hid (B3.out.trans (hb.mono B3.out.size))
    have gx := (hb.block _ (lt_of_block Gx.out)).trans Gx.out
    clear x0 x1 x2 x3
    have x0 := (blk_cell (j := 0) gx).trans (show _ = some (.int .i64 b) from rfl)
    have x1 := (blk_cell (j := 1) gx).trans (show _ = some (.int .i64 m) from rfl)
    have x2 := (blk_cell (j := 2) gx).trans (show _ = some (.int .i64 c) from rfl)
    have x3 := (blk_cell (j := 3) gx).trans (show _ = some (.int .i64 a) from rfl)
    have Gx := Lib.hid gx
    clear hb gx
    go_wp2_with fail
    go_ret
    exact ⟨rfl, B4.out⟩
end Go.Proofs.Ytgpghnhpbjnhkaa

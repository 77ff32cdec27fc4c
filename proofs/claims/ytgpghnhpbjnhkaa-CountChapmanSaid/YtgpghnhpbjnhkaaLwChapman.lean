/-
  CountChapman: the walk. Every argument.
-/
import Derived.Test.YtgpghnhpbjnhkaaCc6
import Derived.Test.YtgpghnhpbjnhkaaCc7
namespace Go.Proofs.Ytgpghnhpbjnhkaa
open Go.RowKit
set_option linter.unusedVariables false

set_option maxRecDepth 8000 in
set_option maxHeartbeats 4000000 in
theorem Chapman_walk (b m c a : Int) (w : World) : Calls Try.prog 10 #[.agg (rc b m c a)] w fun e w' => e = .returned (.bool true) ∧ Below w.heap.size w w' := by
  have HKN := Lib.hid known_any
  have H1 := Lib.hid (fun w => Chapman_any m c a w)
  have H2 := Lib.hid (fun w => rChapman_any m c a w)
  generalize cpE m c a = E at *
  generalize cpV m c a = p at *
  obtain ⟨p1, p2⟩ := p
  unfold ratV at H1 H2
  have pi := fun W => rat_in (p1 : Int) (p2 : Int) W
  have pe := fun W => rat_eq (p1 : Int) (p2 : Int) W
  have pn := fun W => rat_ne (p1 : Int) (p2 : Int) W
  have hgr := guard_rat
  have B0 := Lib.hid (Below.refl w.heap.size w)
  go_enter Try.func10, Try.ntmps10
  have B1 := Lib.hid (B0.out.alloc B0.out.size (.cells (rc b m c a) 28))
  have gx := heap_alloc_new w (.cells (rc b m c a) 28)
  have x0 := (blk_cell (j := 0) gx).trans (show _ = some (.int .i64 b) from rfl)
  have x1 := (blk_cell (j := 1) gx).trans (show _ = some (.int .i64 m) from rfl)
  have x2 := (blk_cell (j := 2) gx).trans (show _ = some (.int .i64 c) from rfl)
  have x3 := (blk_cell (j := 3) gx).trans (show _ = some (.int .i64 a) from rfl)
  have Gx := Lib.hid gx
  clear gx
  go_wp2_with fail
  refine (H1.out (w.alloc (.cells (rc b m c a) 28))).mono ?_
  rintro e w2 ⟨rfl, hb⟩
  have B2 := Lib.hid (B1.out.trans (hb.mono B1.out.size))
  have gx := (hb.block _ (lt_of_block Gx.out)).trans Gx.out
  clear x0 x1 x2 x3
  have x0 := (blk_cell (j := 0) gx).trans (show _ = some (.int .i64 b) from rfl)
  have x1 := (blk_cell (j := 1) gx).trans (show _ = some (.int .i64 m) from rfl)
  have x2 := (blk_cell (j := 2) gx).trans (show _ = some (.int .i64 c) from rfl)
  have x3 := (blk_cell (j := 3) gx).trans (show _ = some (.int .i64 a) from rfl)
  have Gx := Lib.hid gx
  clear hb gx
  have B3 := Lib.hid (B2.out.alloc B2.out.size (.cells #[.int .i64 (p1 : Int), .int .i64 (p2 : Int)] 31))
  have gx := blk_up (o := .cells #[.int .i64 (p1 : Int), .int .i64 (p2 : Int)] 31) Gx.out
  have gr := heap_alloc_new w2 (.cells #[.int .i64 (p1 : Int), .int .i64 (p2 : Int)] 31)
  clear x0 x1 x2 x3
  have x0 := (blk_cell (j := 0) gx).trans (show _ = some (.int .i64 b) from rfl)
  have x1 := (blk_cell (j := 1) gx).trans (show _ = some (.int .i64 m) from rfl)
  have x2 := (blk_cell (j := 2) gx).trans (show _ = some (.int .i64 c) from rfl)
  have x3 := (blk_cell (j := 3) gx).trans (show _ = some (.int .i64 a) from rfl)
  have r0 := (blk_cell (j := 0) gr).trans (show _ = some (.int .i64 (p1 : Int)) from rfl)
  have r1 := (blk_cell (j := 1) gr).trans (show _ = some (.int .i64 (p2 : Int)) from rfl)
  have Gx := Lib.hid gx
  have Gr := Lib.hid gr
  clear gx gr
  go_wp2_with fail
  refine (H2.out (w2.alloc (.cells #[.int .i64 (p1 : Int), .int .i64 (p2 : Int)] 31))).mono ?_
  rintro e w4 ⟨rfl, hb⟩
  have B4 := Lib.hid (B3.out.trans (hb.mono B3.out.size))
  have gx := (hb.block _ (lt_of_block Gx.out)).trans Gx.out
  have gr := (hb.block _ (lt_of_block Gr.out)).trans Gr.out
  clear x0 x1 x2 x3 r0 r1
  have x0 := (blk_cell (j := 0) gx).trans (show _ = some (.int .i64 b) from rfl)
  have x1 := (blk_cell (j := 1) gx).trans (show _ = some (.int .i64 m) from rfl)
  have x2 := (blk_cell (j := 2) gx).trans (show _ = some (.int .i64 c) from rfl)
  have x3 := (blk_cell (j := 3) gx).trans (show _ = some (.int .i64 a) from rfl)
  have r0 := (blk_cell (j := 0) gr).trans (show _ = some (.int .i64 (p1 : Int)) from rfl)
  have r1 := (blk_cell (j := 1) gr).trans (show _ = some (.int .i64 (p2 : Int)) from rfl)
  have Gx := Lib.hid gx
  have Gr := Lib.hid gr
  clear hb gx gr
  have B5 := Lib.hid (B4.out.alloc B4.out.size (.cells #[.int .i64 (p1 : Int), .int .i64 (p2 : Int)] 31))
  have gx := blk_up (o := .cells #[.int .i64 (p1 : Int), .int .i64 (p2 : Int)] 31) Gx.out
  have gr := blk_up (o := .cells #[.int .i64 (p1 : Int), .int .i64 (p2 : Int)] 31) Gr.out
  have gs := heap_alloc_new w4 (.cells #[.int .i64 (p1 : Int), .int .i64 (p2 : Int)] 31)
  clear x0 x1 x2 x3 r0 r1
  have x0 := (blk_cell (j := 0) gx).trans (show _ = some (.int .i64 b) from rfl)
  have x1 := (blk_cell (j := 1) gx).trans (show _ = some (.int .i64 m) from rfl)
  have x2 := (blk_cell (j := 2) gx).trans (show _ = some (.int .i64 c) from rfl)
  have x3 := (blk_cell (j := 3) gx).trans (show _ = some (.int .i64 a) from rfl)
  have r0 := (blk_cell (j := 0) gr).trans (show _ = some (.int .i64 (p1 : Int)) from rfl)
  have r1 := (blk_cell (j := 1) gr).trans (show _ = some (.int .i64 (p2 : Int)) from rfl)
  have s0 := (blk_cell (j := 0) gs).trans (show _ = some (.int .i64 (p1 : Int)) from rfl)
  have s1 := (blk_cell (j := 1) gs).trans (show _ = some (.int .i64 (p2 : Int)) from rfl)
  have Gx := Lib.hid gx
  have Gr := Lib.hid gr
  have Gs := Lib.hid gs
  clear gx gr gs
  go_wp2_with fail
  refine (HKN.out (w4.alloc (.cells #[.int .i64 (p1 : Int), .int .i64 (p2 : Int)] 31))).mono ?_
  rintro e w6 ⟨rfl, hb⟩
  have B6 := Lib.hid (B5.out.trans (hb.mono B5.out.size))
  have gx := (hb.block _ (lt_of_block Gx.out)).trans Gx.out
  have gr := (hb.block _ (lt_of_block Gr.out)).trans Gr.out
  have gs := (hb.block _ (lt_of_block Gs.out)).trans Gs.out
  clear x0 x1 x2 x3 r0 r1 s0 s1
  have x0 := (blk_cell (j := 0) gx).trans (show _ = some (.int .i64 b) from rfl)
  have x1 := (blk_cell (j := 1) gx).trans (show _ = some (.int .i64 m) from rfl)
  have x2 := (blk_cell (j := 2) gx).trans (show _ = some (.int .i64 c) from rfl)
  have x3 := (blk_cell (j := 3) gx).trans (show _ = some (.int .i64 a) from rfl)
  have r0 := (blk_cell (j := 0) gr).trans (show _ = some (.int .i64 (p1 : Int)) from rfl)
  have r1 := (blk_cell (j := 1) gr).trans (show _ = some (.int .i64 (p2 : Int)) from rfl)
  have s0 := (blk_cell (j := 0) gs).trans (show _ = some (.int .i64 (p1 : Int)) from rfl)
  have s1 := (blk_cell (j := 1) gs).trans (show _ = some (.int .i64 (p2 : Int)) from rfl)
  have Gx := Lib.hid gx
  have Gr := Lib.hid gr
  have Gs := Lib.hid gs
  clear hb gx gr gs
  go_wp2_with fail
  go_ret
  exact ⟨rfl, B6.out⟩
end Go.Proofs.Ytgpghnhpbjnhkaa

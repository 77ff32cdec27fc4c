/-
  CountWays: the walk. Every argument.
-/
import Derived.Test.YtgpghnhpbjnhkaaCc6
namespace Go.Proofs.Ytgpghnhpbjnhkaa
open Go.RowKit
set_option linter.unusedVariables false

set_option maxRecDepth 8000 in
set_option maxHeartbeats 4000000 in
theorem Ways_walk (b m c a : Int) (w : World) : Calls Try.prog 4 #[.agg (rc b m c a)] w fun e w' => e = .returned (.bool true) ∧ Below w.heap.size w w' := by
  have HKN := Lib.hid known_any
  have H1 := Lib.hid (fun w => Ways_any b m c a w)
  have H2 := Lib.hid (fun w => rWays_any b m c a w)
  have H3 := Lib.hid (fun w => Chance_any b m c a w)
  have H4 := Lib.hid (fun w => rChance_any b m c a w)
  have H5 := Lib.hid (fun w => AtMost_any b m c a w)
  have H6 := Lib.hid (fun w => rAtMost_any b m c a w)
  generalize wysV b m c a = x at *
  generalize wysE b m c a = E at *
  generalize chE b m c a = F at *
  generalize chV b m c a = p at *
  generalize amV b m c a = q at *
  obtain ⟨p1, p2⟩ := p
  obtain ⟨q1, q2⟩ := q
  unfold ratV at H3 H4 H5 H6
  have pi := fun W => rat_in (p1 : Int) (p2 : Int) W
  have pe := fun W => rat_eq (p1 : Int) (p2 : Int) W
  have pn := fun W => rat_ne (p1 : Int) (p2 : Int) W
  have qi := fun W => rat_in (q1 : Int) (q2 : Int) W
  have qe := fun W => rat_eq (q1 : Int) (q2 : Int) W
  have qn := fun W => rat_ne (q1 : Int) (q2 : Int) W
  have hgr := guard_rat
  have B0 := Lib.hid (Below.refl w.heap.size w)
  go_enter Try.func4, Try.ntmps4
  have B1 := Lib.hid (B0.out.alloc B0.out.size (.cells (rc b m c a) 28))
  have gx := heap_alloc_new w (.cells (rc b m c a) 28)
  have x0 := (blk_cell (j := 0) gx).trans (show _ = some (.int .i64 b) from rfl)
  have x1 := (blk_cell (j := 1) gx).trans (show _ = some (.int .i64 m) from rfl)
  have x2 := (blk_cell (j := 2) gx).trans (show _ = some (.int .i64 c) from rfl)
  have x3 := (blk_cell (j := 3) gx).trans (show _ = some (.int .i64 a) from rfl)
  have Gx := Lib.hid gx
  clear gx
  go_wp2_with fail
  refine (H1.out (w.alloc (.cells (rc b m c a) 28))).mono ?_
  rintro e w2 ⟨rfl, hb⟩
  have B2 := Lib.hid (B1.out.trans (hb.mono B1.out.size))
  have gx := (hb.block _ (lt_of_block Gx.out)).trans Gx.out
  clear x0 x1 x2 x3
  have x0 := (blk_cell (j := 0) gx).trans (show _ = some (.int .i64 b) from rfl)
  have x1 := (blk_cell (j := 1) gx).trans (show _ = some (.int .i64 m) from rfl)
  have x2 := (blk_cell (j := 2) gx).trans (show _ = some (.int .i64 c) from rfl)
  have x3 := (blk_cell (j := 3) gx).trans (show _ = some (.int .i64 a) from rfl)
  have Gx := Lib.hid gx
  clear hb gx
  go_wp2_with fail
  refine (H2.out w2).mono ?_
  rintro e w3 ⟨rfl, hb⟩
  have B3 := Lib.hid (B2.out.trans (hb.mono B2.out.size))
  have gx := (hb.block _ (lt_of_block Gx.out)).trans Gx.out
  clear x0 x1 x2 x3
  have x0 := (blk_cell (j := 0) gx).trans (show _ = some (.int .i64 b) from rfl)
  have x1 := (blk_cell (j := 1) gx).trans (show _ = some (.int .i64 m) from rfl)
  have x2 := (blk_cell (j := 2) gx).trans (show _ = some (.int .i64 c) from rfl)
  have x3 := (blk_cell (j := 3) gx).trans (show _ = some (.int .i64 a) from rfl)
  have Gx := Lib.hid gx
  clear hb gx
  go_wp2_with fail
  refine (H3.out w3).mono ?_
  rintro e w4 ⟨rfl, hb⟩
  have B4 := Lib.hid (B3.out.trans (hb.mono B3.out.size))
  have gx := (hb.block _ (lt_of_block Gx.out)).trans Gx.out
  clear x0 x1 x2 x3
  have x0 := (blk_cell (j := 0) gx).trans (show _ = some (.int .i64 b) from rfl)
  have x1 := (blk_cell (j := 1) gx).trans (show _ = some (.int .i64 m) from rfl)
  have x2 := (blk_cell (j := 2) gx).trans (show _ = some (.int .i64 c) from rfl)
  have x3 := (blk_cell (j := 3) gx).trans (show _ = some (.int .i64 a) from rfl)
  have Gx := Lib.hid gx
  clear hb gx
  have B5 := Lib.hid (B4.out.alloc B4.out.size (.cells #[.int .i64 (p1 : Int), .int .i64 (p2 : Int)] 31))
  have gx := blk_up (o := .cells #[.int .i64 (p1 : Int), .int .i64 (p2 : Int)] 31) Gx.out
  have gr := heap_alloc_new w4 (.cells #[.int .i64 (p1 : Int), .int .i64 (p2 : Int)] 31)
  clear x0 x1 x2 x3
  have x0 := (blk_cell (j := 0) gx).trans (show _ = some (.int .i64 b) from rfl)
  have x1 := (blk_cell (j := 1) gx).trans (show _ = some (.int .i64 m) from rfl)
  have x2 := (blk_cell (j := 2) gx).trans (show _ = some (.int .i64 c) from rfl)
  have x3 := (blk_cell (j := 3) gx).trans (show _ = some (.int .i64 a) from rfl)
  have r0 := (blk_cell (j := 0) gr).trans (show _ = some (.int .i64 (p1 : Int)) from rfl)
  have r1 := (blk_cell (j := 1) gr).trans (show _ = some (.int .i64 (p2 : Int)) from rfl)
  have Gx := Lib.hid gx
  have Gr := Lib.hid gr
  clear gx gr
  go_wp2_with fail
  refine (H4.out (w4.alloc (.cells #[.int .i64 (p1 : Int), .int .i64 (p2 : Int)] 31))).mono ?_
  rintro e w6 ⟨rfl, hb⟩
  have B6 := Lib.hid (B5.out.trans (hb.mono B5.out.size))
  have gx := (hb.block _ (lt_of_block Gx.out)).trans Gx.out
  have gr := (hb.block _ (lt_of_block Gr.out)).trans Gr.out
  clear x0 x1 x2 x3 r0 r1
  have x0 := (blk_cell (j := 0) gx).trans (show _ = some (.int .i64 b) from rfl)
  have x1 := (blk_cell (j := 1) gx).trans (show _ = some (.int .i64 m) from rfl)
  have x2 := (blk_cell (j := 2) gx).trans (show _ = some (.int .i64 c) from rfl)
  have x3 := (blk_cell (j := 3) gx).trans (show _ = some (.int .i64 a) from rfl)
  have r0 := (blk_cell (j := 0) gr).trans (show _ = some (.int .i64 (p1 : Int)) from rfl)
  have r1 := (blk_cell (j := 1) gr).trans (show _ = some (.int .i64 (p2 : Int)) from rfl)
  have Gx := Lib.hid gx
  have Gr := Lib.hid gr
  clear hb gx gr
  have B7 := Lib.hid (B6.out.alloc B6.out.size (.cells #[.int .i64 (p1 : Int), .int .i64 (p2 : Int)] 31))
  have gx := blk_up (o := .cells #[.int .i64 (p1 : Int), .int .i64 (p2 : Int)] 31) Gx.out
  have gr := blk_up (o := .cells #[.int .i64 (p1 : Int), .int .i64 (p2 : Int)] 31) Gr.out
  have gs := heap_alloc_new w6 (.cells #[.int .i64 (p1 : Int), .int .i64 (p2 : Int)] 31)
  clear x0 x1 x2 x3 r0 r1
  have x0 := (blk_cell (j := 0) gx).trans (show _ = some (.int .i64 b) from rfl)
  have x1 := (blk_cell (j := 1) gx).trans (show _ = some (.int .i64 m) from rfl)
  have x2 := (blk_cell (j := 2) gx).trans (show _ = some (.int .i64 c) from rfl)
  have x3 := (blk_cell (j := 3) gx).trans (show _ = some (.int .i64 a) from rfl)
  have r0 := (blk_cell (j := 0) gr).trans (show _ = some (.int .i64 (p1 : Int)) from rfl)
  have r1 := (blk_cell (j := 1) gr).trans (show _ = some (.int .i64 (p2 : Int)) from rfl)
  have s0 := (blk_cell (j := 0) gs).trans (show _ = some (.int .i64 (p1 : Int)) from rfl)
  have s1 := (blk_cell (j := 1) gs).trans (show _ = some (.int .i64 (p2 : Int)) from rfl)
  have Gx := Lib.hid gx
  have Gr := Lib.hid gr
  have Gs := Lib.hid gs
  clear gx gr gs
  go_wp2_with fail
  refine (H5.out (w6.alloc (.cells #[.int .i64 (p1 : Int), .int .i64 (p2 : Int)] 31))).mono ?_
  rintro e w8 ⟨rfl, hb⟩
  have B8 := Lib.hid (B7.out.trans (hb.mono B7.out.size))
  have gx := (hb.block _ (lt_of_block Gx.out)).trans Gx.out
  have gr := (hb.block _ (lt_of_block Gr.out)).trans Gr.out
  have gs := (hb.block _ (lt_of_block Gs.out)).trans Gs.out
  clear x0 x1 x2 x3 r0 r1 s0 s1
  have x0 := (blk_cell (j := 0) gx).trans (show _ = some (.int .i64 b) from rfl)
  have x1 := (blk_cell (j := 1) gx).trans (show _ = some (.int .i64 m) from rfl)
  have x2 := (blk_cell (j := 2) gx).trans (show _ = some (.int .i64 c) from rfl)
  have x3 := (blk_cell (j := 3) gx).trans (show _ = some (.int .i64 a) from rfl)
  have r0 := (blk_cell (j := 0) gr).trans (show _ = some (.int .i64 (p1 : Int)) from rfl)
  have r1 := (blk_cell (j := 1) gr).trans (show _ = some (.int .i64 (p2 : Int)) from rfl)
  have s0 := (blk_cell (j := 0) gs).trans (show _ = some (.int .i64 (p1 : Int)) from rfl)
  have s1 := (blk_cell (j := 1) gs).trans (show _ = some (.int .i64 (p2 : Int)) from rfl)
  have Gx := Lib.hid gx
  have Gr := Lib.hid gr
  have Gs := Lib.hid gs
  clear hb gx gr gs
  have B9 := Lib.hid (B8.out.alloc B8.out.size (.cells #[.int .i64 (q1 : Int), .int .i64 (q2 : Int)] 31))
  have gx := blk_up (o := .cells #[.int .i64 (q1 : Int), .int .i64 (q2 : Int)] 31) Gx.out
  have gr := blk_up (o := .cells #[.int .i64 (q1 : Int), .int .i64 (q2 : Int)] 31) Gr.out
  have gs := blk_up (o := .cells #[.int .i64 (q1 : Int), .int .i64 (q2 : Int)] 31) Gs.out
  have gt := heap_alloc_new w8 (.cells #[.int .i64 (q1 : Int), .int .i64 (q2 : Int)] 31)
  clear x0 x1 x2 x3 r0 r1 s0 s1
  have x0 := (blk_cell (j := 0) gx).trans (show _ = some (.int .i64 b) from rfl)
  have x1 := (blk_cell (j := 1) gx).trans (show _ = some (.int .i64 m) from rfl)
  have x2 := (blk_cell (j := 2) gx).trans (show _ = some (.int .i64 c) from rfl)
  have x3 := (blk_cell (j := 3) gx).trans (show _ = some (.int .i64 a) from rfl)
  have r0 := (blk_cell (j := 0) gr).trans (show _ = some (.int .i64 (p1 : Int)) from rfl)
  have r1 := (blk_cell (j := 1) gr).trans (show _ = some (.int .i64 (p2 : Int)) from rfl)
  have s0 := (blk_cell (j := 0) gs).trans (show _ = some (.int .i64 (p1 : Int)) from rfl)
  have s1 := (blk_cell (j := 1) gs).trans (show _ = some (.int .i64 (p2 : Int)) from rfl)
  have t0 := (blk_cell (j := 0) gt).trans (show _ = some (.int .i64 (q1 : Int)) from rfl)
  have t1 := (blk_cell (j := 1) gt).trans (show _ = some (.int .i64 (q2 : Int)) from rfl)
  have Gx := Lib.hid gx
  have Gr := Lib.hid gr
  have Gs := Lib.hid gs
  have Gt := Lib.hid gt
  clear gx gr gs gt
  go_wp2_with fail
  refine (H6.out (w8.alloc (.cells #[.int .i64 (q1 : Int), .int .i64 (q2 : Int)] 31))).mono ?_
  rintro e w10 ⟨rfl, hb⟩
  have B10 := Lib.hid (B9.out.trans (hb.mono B9.out.size))
  have gx := (hb.block _ (lt_of_block Gx.out)).trans Gx.out
  have gr := (hb.block _ (lt_of_block Gr.out)).trans Gr.out
  have gs := (hb.block _ (lt_of_block Gs.out)).trans Gs.out
  have gt := (hb.block _ (lt_of_block Gt.out)).trans Gt.out
  clear x0 x1 x2 x3 r0 r1 s0 s1 t0 t1
  have x0 := (blk_cell (j := 0) gx).trans (show _ = some (.int .i64 b) from rfl)
  have x1 := (blk_cell (j := 1) gx).trans (show _ = some (.int .i64 m) from rfl)
  have x2 := (blk_cell (j := 2) gx).trans (show _ = some (.int .i64 c) from rfl)
  have x3 := (blk_cell (j := 3) gx).trans (show _ = some (.int .i64 a) from rfl)
  have r0 := (blk_cell (j := 0) gr).trans (show _ = some (.int .i64 (p1 : Int)) from rfl)
  have r1 := (blk_cell (j := 1) gr).trans (show _ = some (.int .i64 (p2 : Int)) from rfl)
  have s0 := (blk_cell (j := 0) gs).trans (show _ = some (.int .i64 (p1 : Int)) from rfl)
  have s1 := (blk_cell (j := 1) gs).trans (show _ = some (.int .i64 (p2 : Int)) from rfl)
  have t0 := (blk_cell (j := 0) gt).trans (show _ = some (.int .i64 (q1 : Int)) from rfl)
  have t1 := (blk_cell (j := 1) gt).trans (show _ = some (.int .i64 (q2 : Int)) from rfl)
  have Gx := Lib.hid gx
  have Gr := Lib.hid gr
  have Gs := Lib.hid gs
  have Gt := Lib.hid gt
  clear hb gx gr gs gt
  have B11 := Lib.hid (B10.out.alloc B10.out.size (.cells #[.int .i64 (q1 : Int), .int .i64 (q2 : Int)] 31))
  have gx := blk_up (o := .cells #[.int .i64 (q1 : Int), .int .i64 (q2 : Int)] 31) Gx.out
  have gr := blk_up (o := .cells #[.int .i64 (q1 : Int), .int .i64 (q2 : Int)] 31) Gr.out
  have gs := blk_up (o := .cells #[.int .i64 (q1 : Int), .int .i64 (q2 : Int)] 31) Gs.out
  have gt := blk_up (o := .cells #[.int .i64 (q1 : Int), .int .i64 (q2 : Int)] 31) Gt.out
  have gu := heap_alloc_new w10 (.cells #[.int .i64 (q1 : Int), .int .i64 (q2 : Int)] 31)
  clear x0 x1 x2 x3 r0 r1 s0 s1 t0 t1
  have x0 := (blk_cell (j := 0) gx).trans (show _ = some (.int .i64 b) from rfl)
  have x1 := (blk_cell (j := 1) gx).trans (show _ = some (.int .i64 m) from rfl)
  have x2 := (blk_cell (j := 2) gx).trans (show _ = some (.int .i64 c) from rfl)
  have x3 := (blk_cell (j := 3) gx).trans (show _ = some (.int .i64 a) from rfl)
  have r0 := (blk_cell (j := 0) gr).trans (show _ = some (.int .i64 (p1 : Int)) from rfl)
  have r1 := (blk_cell (j := 1) gr).trans (show _ = some (.int .i64 (p2 : Int)) from rfl)
  have s0 := (blk_cell (j := 0) gs).trans (show _ = some (.int .i64 (p1 : Int)) from rfl)
  have s1 := (blk_cell (j := 1) gs).trans (show _ = some (.int .i64 (p2 : Int)) from rfl)
  have t0 := (blk_cell (j := 0) gt).trans (show _ = some (.int .i64 (q1 : Int)) from rfl)
  have t1 := (blk_cell (j := 1) gt).trans (show _ = some (.int .i64 (q2 : Int)) from rfl)
  have u0 := (blk_cell (j := 0) gu).trans (show _ = some (.int .i64 (q1 : Int)) from rfl)
  have u1 := (blk_cell (j := 1) gu).trans (show _ = some (.int .i64 (q2 : Int)) from rfl)
  have Gx := Lib.hid gx
  have Gr := Lib.hid gr
  have Gs := Lib.hid gs
  have Gt := Lib.hid gt
  have Gu := Lib.hid gu
  clear gx gr gs gt gu
  go_wp2_with fail
  refine (HKN.out (w10.alloc (.cells #[.int .i64 (q1 : Int), .int .i64 (q2 : Int)] 31))).mono ?_
  rintro e w12 ⟨rfl, hb⟩
  have B12 := Lib.hid (B11.out.trans (hb.mono B11.out.size))
  have gx := (hb.block _ (lt_of_block Gx.out)).trans Gx.out
  have gr := (hb.block _ (lt_of_block Gr.out)).trans Gr.out
  have gs := (hb.block _ (lt_of_block Gs.out)).trans Gs.out
  have gt := (hb.block _ (lt_of_block Gt.out)).trans Gt.out
  have gu := (hb.block _ (lt_of_block Gu.out)).trans Gu.out
  clear x0 x1 x2 x3 r0 r1 s0 s1 t0 t1 u0 u1
  have x0 := (blk_cell (j := 0) gx).trans (show _ = some (.int .i64 b) from rfl)
  have x1 := (blk_cell (j := 1) gx).trans (show _ = some (.int .i64 m) from rfl)
  have x2 := (blk_cell (j := 2) gx).trans (show _ = some (.int .i64 c) from rfl)
  have x3 := (blk_cell (j := 3) gx).trans (show _ = some (.int .i64 a) from rfl)
  have r0 := (blk_cell (j := 0) gr).trans (show _ = some (.int .i64 (p1 : Int)) from rfl)
  have r1 := (blk_cell (j := 1) gr).trans (show _ = some (.int .i64 (p2 : Int)) from rfl)
  have s0 := (blk_cell (j := 0) gs).trans (show _ = some (.int .i64 (p1 : Int)) from rfl)
  have s1 := (blk_cell (j := 1) gs).trans (show _ = some (.int .i64 (p2 : Int)) from rfl)
  have t0 := (blk_cell (j := 0) gt).trans (show _ = some (.int .i64 (q1 : Int)) from rfl)
  have t1 := (blk_cell (j := 1) gt).trans (show _ = some (.int .i64 (q2 : Int)) from rfl)
  have u0 := (blk_cell (j := 0) gu).trans (show _ = some (.int .i64 (q1 : Int)) from rfl)
  have u1 := (blk_cell (j := 1) gu).trans (show _ = some (.int .i64 (q2 : Int)) from rfl)
  have Gx := Lib.hid gx
  have Gr := Lib.hid gr
  have Gs := Lib.hid gs
  have Gt := Lib.hid gt
  have Gu := Lib.hid gu
  clear hb gx gr gs gt gu
  go_wp2_with fail
  go_ret
  exact ⟨rfl, B12.out⟩
end Go.Proofs.Ytgpghnhpbjnhkaa

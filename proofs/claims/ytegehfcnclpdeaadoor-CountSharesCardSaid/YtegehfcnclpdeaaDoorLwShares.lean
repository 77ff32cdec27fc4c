/-
  CountShares: the walk. Condition: the list can be read.
-/
import Derived.Test.YtegehfcnclpdeaaDoorHsh
import Derived.Test.YtegehfcnclpdeaaDoorCc6
namespace Go.Proofs.YtegehfcnclpdeaaDoor
open Go.RowKit
set_option linter.unusedVariables false

set_option maxRecDepth 8000 in
set_option maxHeartbeats 4000000 in
theorem Shares_walk (A : Option Addr) (cp : Nat) (C : List ByteArray) (d : Int) (w : World) (hr : Rd w w.heap.size A (txts C)) (hs : Sz C) (hlc : C.length ≤ cp) (hcm : cp ≤ maxLen) :
    Calls Tryd.prog 3 #[.slice A C.length cp, .int .i64 d] w fun e w' => e = .returned (.bool true) ∧ Below w.heap.size w w' := by
  have hl : C.length ≤ 9223372036854775807 := by unfold maxLen at hcm; omega
  have HM := Lib.hid (Many_any A cp C hs hl w hr)
  have H1 := Lib.hid (fun w h => Share_any A cp C hs hl d w h)
  have H2 := Lib.hid (fun w h => rShare_any A cp C hs hl d w h)
  have HKN := Lib.hid (fun w => known_any w)
  have R0 := Lib.hid hr
  clear hr hs hlc hcm
  generalize C.length = len at *
  generalize shE C d = E at *
  generalize shV C d = p at *
  obtain ⟨p1, p2⟩ := p
  unfold ratV at H1 H2
  have pi := fun W => rat_in (p1 : Int) (p2 : Int) W
  have pe := fun W => rat_eq (p1 : Int) (p2 : Int) W
  have pn := fun W => rat_ne (p1 : Int) (p2 : Int) W
  have hgr := guard_rat
  have B0 := Lib.hid (Below.refl w.heap.size w)
  go_enter Tryd.func3, Tryd.ntmps3
  go_wp2_with fail
  refine HM.out.mono ?_
  rintro e w0 ⟨⟨q, rfl⟩, rfl⟩
  cases q
  · go_wp2_with fail
    refine (H1.out w R0.out).mono ?_
    rintro e w1 ⟨rfl, hb⟩
    have B1 := Lib.hid (B0.out.trans (hb.mono B0.out.size))
    have R1 := Lib.hid (Rd.upH R0.out hb)
    clear hb
    have R2 := Lib.hid (Rd.upH R1.out ((Below.refl w1.heap.size w1).alloc (Nat.le_refl _) (.cells #[.int .i64 (p1 : Int), .int .i64 (p2 : Int)] 26)))
    have B2 := Lib.hid (B1.out.alloc B1.out.size (.cells #[.int .i64 (p1 : Int), .int .i64 (p2 : Int)] 26))
    have gr := heap_alloc_new w1 (.cells #[.int .i64 (p1 : Int), .int .i64 (p2 : Int)] 26)
    have r0 := (blk_cell (j := 0) gr).trans (show _ = some (.int .i64 (p1 : Int)) from rfl)
    have r1 := (blk_cell (j := 1) gr).trans (show _ = some (.int .i64 (p2 : Int)) from rfl)
    have Gr := Lib.hid gr
    clear gr
    go_wp2_with fail
    refine (H2.out (w1.alloc (.cells #[.int .i64 (p1 : Int), .int .i64 (p2 : Int)] 26)) R2.out).mono ?_
    rintro e w3 ⟨rfl, hb⟩
    have B3 := Lib.hid (B2.out.trans (hb.mono B2.out.size))
    have R3 := Lib.hid (Rd.upH R2.out hb)
    have gr := (hb.block _ (lt_of_block Gr.out)).trans Gr.out
    clear r0 r1
    have r0 := (blk_cell (j := 0) gr).trans (show _ = some (.int .i64 (p1 : Int)) from rfl)
    have r1 := (blk_cell (j := 1) gr).trans (show _ = some (.int .i64 (p2 : Int)) from rfl)
    have Gr := Lib.hid gr
    clear hb gr
    have R4 := Lib.hid (Rd.upH R3.out ((Below.refl w3.heap.size w3).alloc (Nat.le_refl _) (.cells #[.int .i64 (p1 : Int), .int .i64 (p2 : Int)] 26)))
    have B4 := Lib.hid (B3.out.alloc B3.out.size (.cells #[.int .i64 (p1 : Int), .int .i64 (p2 : Int)] 26))
    have gr := blk_up (o := .cells #[.int .i64 (p1 : Int), .int .i64 (p2 : Int)] 26) Gr.out
    have gs := heap_alloc_new w3 (.cells #[.int .i64 (p1 : Int), .int .i64 (p2 : Int)] 26)
    clear r0 r1
    have r0 := (blk_cell (j := 0) gr).trans (show _ = some (.int .i64 (p1 : Int)) from rfl)
    have r1 := (blk_cell (j := 1) gr).trans (show _ = some (.int .i64 (p2 : Int)) from rfl)
    have s0 := (blk_cell (j := 0) gs).trans (show _ = some (.int .i64 (p1 : Int)) from rfl)
    have s1 := (blk_cell (j := 1) gs).trans (show _ = some (.int .i64 (p2 : Int)) from rfl)
    have Gr := Lib.hid gr
    have Gs := Lib.hid gs
    clear gr gs
    go_wp2_with fail
    refine (HKN.out (w3.alloc (.cells #[.int .i64 (p1 : Int), .int .i64 (p2 : Int)] 26))).mono ?_
    rintro e w5 ⟨rfl, hb⟩
    have B5 := Lib.hid (B4.out.trans (hb.mono B4.out.size))
    have gr := (hb.block _ (lt_of_block Gr.out)).trans Gr.out
    have gs := (hb.block _ (lt_of_block Gs.out)).trans Gs.out
    clear r0 r1 s0 s1
    have r0 := (blk_cell (j := 0) gr).trans (show _ = some (.int .i64 (p1 : Int)) from rfl)
    have r1 := (blk_cell (j := 1) gr).trans (show _ = some (.int .i64 (p2 : Int)) from rfl)
    have s0 := (blk_cell (j := 0) gs).trans (show _ = some (.int .i64 (p1 : Int)) from rfl)
    have s1 := (blk_cell (j := 1) gs).trans (show _ = some (.int .i64 (p2 : Int)) from rfl)
    have Gr := Lib.hid gr
    have Gs := Lib.hid gs
    clear hb gr gs
    go_wp2_with fail
    go_ret
    exact ⟨rfl, B5.out⟩
  · go_wp2_with fail
    refine (HKN.out w).mono ?_
    rintro e w1 ⟨rfl, hb⟩
    have B1 := Lib.hid (B0.out.trans (hb.mono B0.out.size))
    clear hb
    go_wp2_with fail
    go_ret
    exact ⟨rfl, B1.out⟩
end Go.Proofs.YtegehfcnclpdeaaDoor

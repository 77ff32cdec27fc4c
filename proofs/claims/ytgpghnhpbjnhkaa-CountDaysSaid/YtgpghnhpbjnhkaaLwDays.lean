/-
  CountDays: the walk. Condition: the list can be read.
-/
import Derived.Test.YtgpghnhpbjnhkaaCd5
import Derived.Test.YtgpghnhpbjnhkaaCc6
namespace Go.Proofs.Ytgpghnhpbjnhkaa
open Go.RowKit
set_option linter.unusedVariables false

set_option maxRecDepth 8000 in
set_option maxHeartbeats 4000000 in
theorem Days_walk (A : Option Addr) (cp : Nat) (L : List C3) (hl : L.length ≤ cp) (hc : cp ≤ maxLen) (w : World) (hr : Rd w w.heap.size A (L.flatMap C3.cells)) : Calls Try.prog 12 #[.slice A L.length cp] w fun e w' => e = .returned (.bool true) ∧ Below w.heap.size w w' := by
  have HKN := Lib.hid known_any
  have hl' : L.length ≤ 9223372036854775807 := by unfold maxLen at hc; omega
  have H1 := Lib.hid (fun w h => Schnabel_any A cp L hl' w h)
  have H2 := Lib.hid (fun w h => rSchnabel_any A cp L hl' w h)
  have H3 := Lib.hid (fun w h => ValidateDays_any A cp L hl' w h)
  have H4 := Lib.hid (fun w h => rValidateDays_any A cp L hl' w h)
  have R0 := Lib.hid hr
  clear hr hl hc
  by_cases h100 : 100 < L.length
  · have e1 : decide ((100 : Int) < (L.length : Int)) = true := by simp; omega
    have e1' : decide (100 < L.length) = true := decide_eq_true h100
    clear h100
    have B0 := Lib.hid (Below.refl w.heap.size w)
    go_enter Try.func12, Try.ntmps12
    go_wp2_with fail
    refine (HKN.out w).mono ?_
    rintro e w1 ⟨rfl, hb⟩
    have B1 := Lib.hid (B0.out.trans (hb.mono B0.out.size))
    clear hb
    go_wp2_with fail
    go_ret
    exact ⟨rfl, B1.out⟩
  · have e1 : decide ((100 : Int) < (L.length : Int)) = false := by simp; omega
    have e1' : decide (100 < L.length) = false := decide_eq_false h100
    clear h100
    generalize snV L = p at *
    generalize snE L = E at *
    generalize dvE L = F at *
    obtain ⟨p1, p2⟩ := p
    unfold ratV at H1 H2
    have pi := fun W => rat_in (p1 : Int) (p2 : Int) W
    have pe := fun W => rat_eq (p1 : Int) (p2 : Int) W
    have pn := fun W => rat_ne (p1 : Int) (p2 : Int) W
    have hgr := guard_rat
    have B0 := Lib.hid (Below.refl w.heap.size w)
    go_enter Try.func12, Try.ntmps12
    go_wp2_with fail
    refine (H1.out w R0.out).mono ?_
    rintro e w1 ⟨rfl, hb⟩
    have B1 := Lib.hid (B0.out.trans (hb.mono B0.out.size))
    have R1 := Lib.hid (Rd.go' R0.out hb)
    clear hb
    have R2 := Lib.hid (Rd.go' R1.out ((Below.refl w1.heap.size w1).alloc (Nat.le_refl _) (.cells #[.int .i64 (p1 : Int), .int .i64 (p2 : Int)] 31)))
    have B2 := Lib.hid (B1.out.alloc B1.out.size (.cells #[.int .i64 (p1 : Int), .int .i64 (p2 : Int)] 31))
    have gr := heap_alloc_new w1 (.cells #[.int .i64 (p1 : Int), .int .i64 (p2 : Int)] 31)
    have r0 := (blk_cell (j := 0) gr).trans (show _ = some (.int .i64 (p1 : Int)) from rfl)
    have r1 := (blk_cell (j := 1) gr).trans (show _ = some (.int .i64 (p2 : Int)) from rfl)
    have Gr := Lib.hid gr
    clear gr
    go_wp2_with fail
    refine (H2.out (w1.alloc (.cells #[.int .i64 (p1 : Int), .int .i64 (p2 : Int)] 31)) R2.out).mono ?_
    rintro e w3 ⟨rfl, hb⟩
    have B3 := Lib.hid (B2.out.trans (hb.mono B2.out.size))
    have R3 := Lib.hid (Rd.go' R2.out hb)
    have gr := (hb.block _ (lt_of_block Gr.out)).trans Gr.out
    clear r0 r1
    have r0 := (blk_cell (j := 0) gr).trans (show _ = some (.int .i64 (p1 : Int)) from rfl)
    have r1 := (blk_cell (j := 1) gr).trans (show _ = some (.int .i64 (p2 : Int)) from rfl)
    have Gr := Lib.hid gr
    clear hb gr
    have R4 := Lib.hid (Rd.go' R3.out ((Below.refl w3.heap.size w3).alloc (Nat.le_refl _) (.cells #[.int .i64 (p1 : Int), .int .i64 (p2 : Int)] 31)))
    have B4 := Lib.hid (B3.out.alloc B3.out.size (.cells #[.int .i64 (p1 : Int), .int .i64 (p2 : Int)] 31))
    have gr := blk_up (o := .cells #[.int .i64 (p1 : Int), .int .i64 (p2 : Int)] 31) Gr.out
    have gs := heap_alloc_new w3 (.cells #[.int .i64 (p1 : Int), .int .i64 (p2 : Int)] 31)
    clear r0 r1
    have r0 := (blk_cell (j := 0) gr).trans (show _ = some (.int .i64 (p1 : Int)) from rfl)
    have r1 := (blk_cell (j := 1) gr).trans (show _ = some (.int .i64 (p2 : Int)) from rfl)
    have s0 := (blk_cell (j := 0) gs).trans (show _ = some (.int .i64 (p1 : Int)) from rfl)
    have s1 := (blk_cell (j := 1) gs).trans (show _ = some (.int .i64 (p2 : Int)) from rfl)
    have Gr := Lib.hid gr
    have Gs := Lib.hid gs
    clear gr gs
    go_wp2_with fail
    refine (H3.out (w3.alloc (.cells #[.int .i64 (p1 : Int), .int .i64 (p2 : Int)] 31)) R4.out).mono ?_
    rintro e w5 ⟨rfl, hb⟩
    have B5 := Lib.hid (B4.out.trans (hb.mono B4.out.size))
    have R5 := Lib.hid (Rd.go' R4.out hb)
    have gr := (hb.block _ (lt_of_block Gr.out)).trans Gr.out
    have gs := (hb.block _ (lt_of_block Gs.out)).trans Gs.out
    clear r0 r1 s0 s1
    have r0 := (blk_cell (j := 0) gr).trans (show _ = some (.int .i64 (p1 : Int)) from rfl)
    have r1 := (blk_cell (j := 1) gr).trans (show _ = some (.int .i64 (p2 : Int)) from rfl)
    have s0 := (blk_cell (j := 0) gs).trans (show _ = some (.int .i64 (p1 : Int)) from rfl)
    have s1 := (blk_cell (j := 1) gs).trans (show _ = some (.int .i64 (p2 : Int)) from rfl)
    have Gr := Lib.hid gr
    have Gs := Lib.hid gs
    clear hb gr gs
    go_wp2_with fail
    refine (H4.out w5 R5.out).mono ?_
    rintro e w6 ⟨rfl, hb⟩
    have B6 := Lib.hid (B5.out.trans (hb.mono B5.out.size))
    have R6 := Lib.hid (Rd.go' R5.out hb)
    have gr := (hb.block _ (lt_of_block Gr.out)).trans Gr.out
    have gs := (hb.block _ (lt_of_block Gs.out)).trans Gs.out
    clear r0 r1 s0 s1
    have r0 := (blk_cell (j := 0) gr).trans (show _ = some (.int .i64 (p1 : Int)) from rfl)
    have r1 := (blk_cell (j := 1) gr).trans (show _ = some (.int .i64 (p2 : Int)) from rfl)
    have s0 := (blk_cell (j := 0) gs).trans (show _ = some (.int .i64 (p1 : Int)) from rfl)
    have s1 := (blk_cell (j := 1) gs).trans (show _ = some (.int .i64 (p2 : Int)) from rfl)
    have Gr := Lib.hid gr
    have Gs := Lib.hid gs
    clear hb gr gs
    go_wp2_with fail
    refine (HKN.out w6).mono ?_
    rintro e w7 ⟨rfl, hb⟩
    have B7 := Lib.hid (B6.out.trans (hb.mono B6.out.size))
    have gr := (hb.block _ (lt_of_block Gr.out)).trans Gr.out
    have gs := (hb.block _ (lt_of_block Gs.out)).trans Gs.out
    clear r0 r1 s0 s1
    have r0 := (blk_cell (j := 0) gr).trans (show _ = some (.int .i64 (p1 : Int)) from rfl)
    have r1 := (blk_cell (j := 1) gr).trans (show _ = some (.int .i64 (p2 : Int)) from rfl)
    have s0 := (blk_cell (j := 0) gs).trans (show _ = some (.int .i64 (p1 : Int)) from rfl)
    have s1 := (blk_cell (j := 1) gs).trans (show _ = some (.int .i64 (p2 : Int)) from rfl)
    have Gr := Lib.hid gr
    have Gs := Lib.hid gs
    clear hb gr gs
    go_wp2_with fail
    go_ret
    exact ⟨rfl, B7.out⟩
end Go.Proofs.Ytgpghnhpbjnhkaa

/-
  The sum of lengths: the walks of Fill of both sides. Condition: the lengths can be read.
-/
import Derived.Test.YtjongjndoaojnaaLn1
namespace Go.Proofs.Ytjongjndoaojnaa
open Go.RowKit
set_option linter.unusedVariables false

def fillR (L : List Int) : Nat × Nat := if lenB L = true then red 12 (fil L) else (0, 0)
def FillPost (L : List Int) (w : World) (e : Ending) (w' : World) : Prop :=
  e = .returned (.tuple #[.agg #[.int .i64 ((fillR L).1 : Nat), .int .i64 ((fillR L).2 : Nat)], .int .i64 (lokE L)]) ∧ Below w.heap.size w w'

set_option maxRecDepth 4000 in
set_option maxHeartbeats 2000000 in
theorem Fill_any (A : Option Addr) (c : Nat) (L : List Int) (w : World) (hr0 : Rd w w.heap.size A (ints L)) (hl : L.length ≤ 9223372036854775807) :
    Calls Try.prog 45 #[.slice A L.length c] w fun e w' => FillPost L w e w' := by
  obtain ⟨W, hW, hg, hs1, hb0⟩ := one_blk w #[.int .i64 0, .int .i64 0] 44
  have hr : Rd W W.heap.size A (ints L) := (hr0.below hb0 (Nat.le_refl _)).more hb0.size
  have HCK := Lib.hid (areLengths_any A c L W hr hl)
  have HW := Lib.hid hW
  have HG := Lib.hid hg
  have HB0 := Lib.hid hb0
  have HS1 := Lib.hid hs1
  have HR := Lib.hid hr
  clear hr hr0 hW hg hb0 hs1
  cases hv : lenB L
  · have HK := Lib.hid (show fillR L = (0, 0) by unfold fillR; rw [hv]; rfl)
    have HE := Lib.hid (show lokE L = 1 by unfold lokE; rw [hv]; rfl)
    rw [hv] at HCK
    clear hv
    have G4 := HG.out
    have d0 := (blk_cell (j := 0) G4).trans (show _ = some (.int .i64 0) from rfl)
    have g0 := blk_free G4 0
    have RB1 := blk_set G4 0 (.int .i64 0)
    have d1 := (blk_cell (j := 1) RB1).trans (show _ = some (.int .i64 0) from rfl)
    have g1 := blk_free RB1 1
    have RB2 := Lib.hid (blk_set RB1 1 (.int .i64 0))
    have BZ := Lib.hid (HB0.out.grown ((grown_setC W w.heap.size 0 (.int .i64 0)).trans (grown_setC _ w.heap.size 1 (.int .i64 0))) HB0.out.size fun q hq => by injection hq with hq; omega)
    clear G4 RB1
    go_enter Try.func45, Try.ntmps45
    go_wp2_with fail
    rw [HW.out]
    refine HCK.out.mono ?_
    rintro e w' ⟨rfl, rfl⟩
    go_wp2_with fail
    (try simp only [Exit.inBlock, Exit.then])
    refine bodyPost_ret (v := .tuple #[.agg #[.int .i64 0, .int .i64 0], .int .i64 1]) (results_row_tmp (p := 2) (u := 3) rfl _ _ w.heap.size 44 _ _ _ rfl RB2.out Try.underlying44 rfl Try.sizeRat) rfl ⟨?_, BZ.out⟩
    rw [HK.out, HE.out]; rfl
  · have HK := Lib.hid (show fillR L = red 12 (fil L) by unfold fillR; rw [hv]; rfl)
    have HE := Lib.hid (show lokE L = 0 by unfold lokE; rw [hv]; rfl)
    have HF := fillOf_any A c L W HR.out hv
    rw [hv] at HCK
    rw [← HK.out] at HF
    have HFF := Lib.hid HF
    clear hv HF
    generalize hkk : fillR L = kk at *
    have HKK := Lib.hid hkk
    clear hkk
    go_enter Try.func45, Try.ntmps45
    go_wp2_with fail
    rw [HW.out]
    refine HCK.out.mono ?_
    rintro e w' ⟨rfl, rfl⟩
    go_wp2_with fail
    refine HFF.out.mono ?_
    rintro e w4 ⟨rfl, hb⟩
    have B4 := Lib.hid (HB0.out.trans (hb.mono HB0.out.size))
    have G4 := (hb.block w.heap.size HS1.out).trans HG.out
    have d0 := (blk_cell (j := 0) G4).trans (show _ = some (.int .i64 0) from rfl)
    have g0 := blk_free G4 0
    have RB1 := blk_set G4 0 (.int .i64 (kk.1 : Int))
    have d1 := (blk_cell (j := 1) RB1).trans (show _ = some (.int .i64 0) from rfl)
    have g1 := blk_free RB1 1
    have RB2 := Lib.hid (blk_set RB1 1 (.int .i64 (kk.2 : Int)))
    have BZ := Lib.hid (B4.out.grown ((grown_setC w4 w.heap.size 0 (.int .i64 (kk.1 : Int))).trans (grown_setC _ w.heap.size 1 (.int .i64 (kk.2 : Int)))) B4.out.size fun q hq => by injection hq with hq; omega)
    clear hb G4 RB1
    go_wp2_with fail
    (try simp only [Exit.inBlock, Exit.then])
    refine bodyPost_ret (v := .tuple #[.agg #[.int .i64 (kk.1 : Int), .int .i64 (kk.2 : Int)], .int .i64 0]) (results_row_tmp (p := 2) (u := 3) rfl _ _ w.heap.size 44 _ _ _ rfl RB2.out Try.underlying44 rfl Try.sizeRat) rfl ⟨?_, BZ.out⟩
    rw [HKK.out, HE.out]

set_option maxRecDepth 4000 in
set_option maxHeartbeats 2000000 in
theorem rFill_any (A : Option Addr) (c : Nat) (L : List Int) (w : World) (hr0 : Rd w w.heap.size A (ints L)) (hl : L.length ≤ 9223372036854775807) :
    Calls Try.prog 46 #[.slice A L.length c] w fun e w' => FillPost L w e w' := by
  obtain ⟨W, hW, hg, hs1, hb0⟩ := one_blk w #[.int .i64 0, .int .i64 0] 44
  have hr : Rd W W.heap.size A (ints L) := (hr0.below hb0 (Nat.le_refl _)).more hb0.size
  have HCK := Lib.hid (lengthsOK_any A c L W hr hl)
  have HW := Lib.hid hW
  have HG := Lib.hid hg
  have HB0 := Lib.hid hb0
  have HS1 := Lib.hid hs1
  have HR := Lib.hid hr
  clear hr hr0 hW hg hb0 hs1
  cases hv : lenB L
  · have HK := Lib.hid (show fillR L = (0, 0) by unfold fillR; rw [hv]; rfl)
    have HE := Lib.hid (show lokE L = 1 by unfold lokE; rw [hv]; rfl)
    rw [show lokE L = 1 by unfold lokE; rw [hv]; rfl] at HCK
    clear hv
    have G4 := HG.out
    have d0 := (blk_cell (j := 0) G4).trans (show _ = some (.int .i64 0) from rfl)
    have g0 := blk_free G4 0
    have RB1 := blk_set G4 0 (.int .i64 0)
    have d1 := (blk_cell (j := 1) RB1).trans (show _ = some (.int .i64 0) from rfl)
    have g1 := blk_free RB1 1
    have RB2 := Lib.hid (blk_set RB1 1 (.int .i64 0))
    have BZ := Lib.hid (HB0.out.grown ((grown_setC W w.heap.size 0 (.int .i64 0)).trans (grown_setC _ w.heap.size 1 (.int .i64 0))) HB0.out.size fun q hq => by injection hq with hq; omega)
    clear G4 RB1
    go_enter Try.func46, Try.ntmps46
    go_wp2_with fail
    rw [HW.out]
    refine HCK.out.mono ?_
    rintro e w' ⟨rfl, rfl⟩
    go_wp2_with fail
    (try simp only [Exit.inBlock, Exit.then])
    refine bodyPost_ret (v := .tuple #[.agg #[.int .i64 0, .int .i64 0], .int .i64 1]) (results_row_tmp (p := 2) (u := 3) rfl _ _ w.heap.size 44 _ _ _ rfl RB2.out Try.underlying44 rfl Try.sizeRat) rfl ⟨?_, BZ.out⟩
    rw [HK.out, HE.out]; rfl
  · have HK := Lib.hid (show fillR L = red 12 (fil L) by unfold fillR; rw [hv]; rfl)
    have HE := Lib.hid (show lokE L = 0 by unfold lokE; rw [hv]; rfl)
    have HF := halves_any A c L W HR.out hv
    rw [show lokE L = 0 by unfold lokE; rw [hv]; rfl] at HCK
    rw [← HK.out] at HF
    have HFF := Lib.hid HF
    clear hv HF
    generalize hkk : fillR L = kk at *
    have HKK := Lib.hid hkk
    clear hkk
    go_enter Try.func46, Try.ntmps46
    go_wp2_with fail
    rw [HW.out]
    refine HCK.out.mono ?_
    rintro e w' ⟨rfl, rfl⟩
    go_wp2_with fail
    refine HFF.out.mono ?_
    rintro e w4 ⟨rfl, hb⟩
    have B4 := Lib.hid (HB0.out.trans (hb.mono HB0.out.size))
    have G4 := (hb.block w.heap.size HS1.out).trans HG.out
    have d0 := (blk_cell (j := 0) G4).trans (show _ = some (.int .i64 0) from rfl)
    have g0 := blk_free G4 0
    have RB1 := blk_set G4 0 (.int .i64 (kk.1 : Int))
    have d1 := (blk_cell (j := 1) RB1).trans (show _ = some (.int .i64 0) from rfl)
    have g1 := blk_free RB1 1
    have RB2 := Lib.hid (blk_set RB1 1 (.int .i64 (kk.2 : Int)))
    have BZ := Lib.hid (B4.out.grown ((grown_setC w4 w.heap.size 0 (.int .i64 (kk.1 : Int))).trans (grown_setC _ w.heap.size 1 (.int .i64 (kk.2 : Int)))) B4.out.size fun q hq => by injection hq with hq; omega)
    clear hb G4 RB1
    go_wp2_with fail
    (try simp only [Exit.inBlock, Exit.then])
    refine bodyPost_ret (v := .tuple #[.agg #[.int .i64 (kk.1 : Int), .int .i64 (kk.2 : Int)], .int .i64 0]) (results_row_tmp (p := 2) (u := 3) rfl _ _ w.heap.size 44 _ _ _ rfl RB2.out Try.underlying44 rfl Try.sizeRat) rfl ⟨?_, BZ.out⟩
    rw [HKK.out, HE.out]
end Go.Proofs.Ytjongjndoaojnaa

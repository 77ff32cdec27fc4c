/-
  The walk of the reference's Copy. Conditions: the game can be read, its lists are not long.
-/
import Derived.Test.YtldepjpalhmpnaaLx1
namespace Go.Proofs.Ytldepjpalhmpnaa
open Go.RowKit
set_option linter.unusedVariables false

theorem Try.eRow : Elem Try.prog 23 22 (.slice none 0 0) 1 24 := ⟨Try.underlying23, by kernel_rfl, rfl, by decide, by decide⟩
set_option maxRecDepth 4000 in
set_option maxHeartbeats 1600000 in
theorem rCopy_any (g : Gv) (w : World) (hr : RdG w w.heap.size g) (hf : Gfit g) (h100 : g.own.length ≤ 100) (r100 : g.rs.length ≤ 100) (rr100 : ∀ r ∈ g.rs, r.l.length ≤ 100) :
    Calls Try.prog 6 #[g.v] w (MadeG w g.G) := by
  obtain ⟨W, hW, p0, p1, hz, hb, hr1⟩ := box_game w g 25 hr
  obtain ⟨W2, hW2, k2, s2, b2⟩ := one_blk W #[.slice none 0 0, .slice none 0 0] 25
  obtain ⟨W3, hW3, k3, s3, b3⟩ := one_blk W2 #[] 3
  have O3 := Lib.hid (own_lit W2 3 1 (Nat.le_refl W2.heap.size))
  rw [hW3] at O3
  have B3 := Lib.hid b3
  have S3 := Lib.hid (Nat.le_of_lt s3)
  have BW3 := Lib.hid (b2.trans (b3.mono b2.size))
  have RG3 := Lib.hid (hr1.up BW3.out)
  have q0 := cell_keep p0 BW3.out hz
  have q1 := cell_keep p1 BW3.out hz
  have HR := Lib.hid hr1
  have p1' := p1
  clear hr hr1 p0 p1 k3 s3 b3
  unfold Gv.v
  obtain ⟨A0, c0, own, A1, c1, rs⟩ := g
  simp only at *
  go_enter Try.func6, Try.ntmps6
  go_wp2_with (first
    | ((with_reducible show wpList _ _ _ (⟨some 8, _, _, _, _, _⟩ :: _) _ _); refine app Try.eInt rfl (.tmp 5) (.tmp 7) rfl rfl O3.out B3.out S3.out rfl RG3.out.o (by simp [ints]) (ints_one _) own.length (by omega) (by omega) ?_; intro A4 c4 w4 o4 b4 g4 h4; clear g4 h4; have O4 := Lib.hid o4; have B4 := Lib.hid b4; clear o4 b4))
  obtain ⟨W5, hW5, k5, s5, b5⟩ := one_blk w4 #[.slice A4 own.length c4, .slice none 0 0] 25
  rw [hW5]
  have B5 := Lib.hid b5
  have K5 := Lib.hid k5
  have BW5 := Lib.hid ((b2.trans (B4.out.mono b2.size)).trans (b5.mono (by have h1 := BW3.out.size; have h2 := B4.out.size; omega)))
  have K2 := Lib.hid k2
  clear hW5 k5 s5 b5 hW hW2 hW3 k2 q0 q1 RG3
  go_loopw [4] (fun i wr => ∃ (k : Nat) (v : Value) (rs' : List Rw), k ≤ rs.length ∧ i = .int .i64 k ∧ wr.heap[w4.heap.size]? = some (.cells #[.slice A4 own.length c4, v] 25 (0, 0)) ∧ OwnR wr (w4.heap.size + 1) 22 v rs' ∧ rs'.map (·.l) = (rs.take k).map (·.l) ∧ Below w4.heap.size w4 wr) (fun i _ => rs.length - (intOf i).toNat)
  case atStart => exact ⟨0, _, [], by omega, rfl, K5.out, OwnR.nil _ _ _, rfl, B5.out⟩
  case round =>
    obtain ⟨k, v, rs', hk, rfl, hbx, hown, hmap, hbl⟩ := hrel
    have BX := Lib.hid hbx
    have O := Lib.hid hown
    have HM := Lib.hid hmap
    have BL := Lib.hid hbl
    have HW4 := Lib.hid (show W.heap.size ≤ w4.heap.size by have h1 := BW3.out.size; have h2 := B4.out.size; omega)
    have BW := Lib.hid ((b2.trans (B4.out.mono b2.size)).trans (hbl.mono HW4.out))
    have q1 := cell_keep p1' BW.out hz
    have RG := Lib.hid (HR.out.up BW.out)
    clear hbx hown hmap hbl
    have RGb := HR.out.below BW.out (Nat.le_refl _)
    by_cases hlt : k < rs.length
    · obtain ⟨b, o, A', c', l, rfl, hx, hcr, hrd⟩ := RGb.r.row k hlt
      have hbb : b < W.heap.size := by
        obtain ⟨b', o', ha, hb', _⟩ := RGb.r.1.at_ (k := k) (u := (rs[k]).v) (by rw [List.getElem?_map, List.getElem?_eq_getElem hlt]; rfl)
        cases ha
        exact hb'
      have hl100 : l.length ≤ 100 := rr100 _ (List.mem_of_getElem? hx.out)
      have HLK := Lib.hid (show rs'.length = k by have h1 := congrArg List.length HM.out; rw [List.length_map, List.length_map, List.length_take] at h1; omega)
      have hlk2 : rs'.length ≤ 100 := by have := HLK.out; omega
      have x0 := blk_cell (j := 0) BX.out
      have x1 := blk_cell (j := 1) BX.out
      have xlt := lt_of_block BX.out
      have HW4' := HW4.out
      have hWr : W.heap.size ≤ wr.heap.size := by omega
      have WA1 := Lib.hid (show Below wr.heap.size wr (wr.alloc (.cells #[] 3)).drew from ((Below.refl _ _).alloc (Nat.le_refl _) _).drew)
      have OA1 := Lib.hid (show (wr.alloc (.cells #[] 3)).drew.ownsRow wr.heap.size 3 1 (.slice (some ⟨wr.heap.size, 0, none⟩) 0 0) 0 [] from own_drew (own_lit wr 3 1 (Nat.le_refl _)))
      have WA2 := Lib.hid (show Below wr.heap.size wr (wr.drew.alloc (.cells #[] 3)) from ((Below.refl _ _).drew).alloc (Nat.le_refl _) _)
      have OA2 := Lib.hid (show (wr.drew.alloc (.cells #[] 3)).ownsRow wr.heap.size 3 1 (.slice (some ⟨wr.heap.size, 0, none⟩) 0 0) 0 [] from own_lit wr.drew 3 1 (Nat.le_refl _))
      have WA3 := Lib.hid (show Below wr.heap.size wr (wr.drew.alloc (.cells #[] 3)).drew from (((Below.refl _ _).drew).alloc (Nat.le_refl _) _).drew)
      have OA3 := Lib.hid (show (wr.drew.alloc (.cells #[] 3)).drew.ownsRow wr.heap.size 3 1 (.slice (some ⟨wr.heap.size, 0, none⟩) 0 0) 0 [] from own_drew (own_lit wr.drew 3 1 (Nat.le_refl _)))
      have hne1 : w.heap.size ≠ w4.heap.size := Nat.ne_of_lt (by omega)
      have hne2 : b ≠ w4.heap.size := Nat.ne_of_lt (by omega)
      have q1a := cell_up (o := .cells #[] 3) q1
      have hcra := cell_up (o := .cells #[] 3) hcr
      have x1a := cell_up (o := .cells #[] 3) x1
      have OV := Lib.hid (show ∀ bb, v.ownBlock = some bb → w4.heap.size + 1 ≤ bb ∧ bb < wr.heap.size from fun bb h => O.out.own.lt bb h)
      go_wp2_with fail
      go_region_law (first
          | ((refine step_app Try.eInt rfl (.tmp 19) (.tmp 24) rfl rfl (B := wr.heap.size) (w0 := wr) OA1.out WA1.out (Below.size WA1.out) rfl (hrd.out.below WA1.out hWr) (by simp [ints]) (ints_one _) l.length (by omega) (by omega) ?_); intro A6 c6 w6 o6 b6 g6 h6; clear g6 h6; have O6 := Lib.hid o6; have B6 := Lib.hid b6; have x6 := cell_keep x1 b6 xlt; have x6a := cell_up (o := .cells #[.slice A6 l.length c6] 22) x6; have x6b := cell_up (w := w6.drew) (o := .cells #[.slice A6 l.length c6] 22) (show w6.drew.cell? ⟨w4.heap.size, 1, none⟩ = some v from x6); have S6 := Lib.hid (And.intro (cell_keep q1 b6 (by omega)) (cell_keep hcr b6 (by omega))); have O6b := Lib.hid (own_below O.out.own b6); have Z6 := Lib.hid (Nat.le_trans (Nat.succ_le_of_lt xlt) b6.size); have B6s := Lib.hid (b6.mono (Nat.succ_le_of_lt xlt)); clear o6 b6)
          | ((refine step_app Try.eInt rfl (.tmp 19) (.tmp 24) rfl rfl (B := wr.heap.size) (w0 := wr) OA2.out WA2.out (Below.size WA2.out) rfl (hrd.out.below WA2.out hWr) (by simp [ints]) (ints_one _) l.length (by omega) (by omega) ?_); intro A6 c6 w6 o6 b6 g6 h6; clear g6 h6; have O6 := Lib.hid o6; have B6 := Lib.hid b6; have x6 := cell_keep x1 b6 xlt; have x6a := cell_up (o := .cells #[.slice A6 l.length c6] 22) x6; have x6b := cell_up (w := w6.drew) (o := .cells #[.slice A6 l.length c6] 22) (show w6.drew.cell? ⟨w4.heap.size, 1, none⟩ = some v from x6); have S6 := Lib.hid (And.intro (cell_keep q1 b6 (by omega)) (cell_keep hcr b6 (by omega))); have O6b := Lib.hid (own_below O.out.own b6); have Z6 := Lib.hid (Nat.le_trans (Nat.succ_le_of_lt xlt) b6.size); have B6s := Lib.hid (b6.mono (Nat.succ_le_of_lt xlt)); clear o6 b6)
          | ((refine step_app Try.eInt rfl (.tmp 19) (.tmp 24) rfl rfl (B := wr.heap.size) (w0 := wr) OA3.out WA3.out (Below.size WA3.out) rfl (hrd.out.below WA3.out hWr) (by simp [ints]) (ints_one _) l.length (by omega) (by omega) ?_); intro A6 c6 w6 o6 b6 g6 h6; clear g6 h6; have O6 := Lib.hid o6; have B6 := Lib.hid b6; have x6 := cell_keep x1 b6 xlt; have x6a := cell_up (o := .cells #[.slice A6 l.length c6] 22) x6; have x6b := cell_up (w := w6.drew) (o := .cells #[.slice A6 l.length c6] 22) (show w6.drew.cell? ⟨w4.heap.size, 1, none⟩ = some v from x6); have S6 := Lib.hid (And.intro (cell_keep q1 b6 (by omega)) (cell_keep hcr b6 (by omega))); have O6b := Lib.hid (own_below O.out.own b6); have Z6 := Lib.hid (Nat.le_trans (Nat.succ_le_of_lt xlt) b6.size); have B6s := Lib.hid (b6.mono (Nat.succ_le_of_lt xlt)); clear o6 b6)
          | ((refine step_app Try.eRow rfl (.tmp 18) (.tmp 26) rfl rfl (w0 := wr) (O6b.out.alloc (.cells #[.slice A6 l.length c6] 22)) (B6s.out.alloc Z6.out (.cells #[.slice A6 l.length c6] 22)) (size_alloc' Z6.out _) rfl (Rd.one w6 (.slice A6 l.length c6) 22 (Nat.lt_succ_self _)) (by simp) (by simp [Value.oneCell']) (rs'.length + 1) rfl (by omega) ?_); intro A7 c7 w7 o7 b7 g7 h7; have B7 := Lib.hid (Below.setCell (p := ⟨w4.heap.size, 1, none⟩) (BL.out.trans (b7.mono (Nat.le_succ _))) (Nat.le_refl _) (.slice A7 (rs'.length + 1) c7)); have BX7 := (b7.block w4.heap.size (Nat.lt_succ_self _)).trans BX.out; have x7 := blk_cell (j := 1) BX7; have f7 := blk_free BX7 1; have E7 := Lib.hid (blk_set BX7 1 (.slice A7 (rs'.length + 1) c7)); have OW := Lib.hid (OwnR.grow O.out O6.out B6.out ((Below.refl _ _).alloc (Nat.le_refl _) (.cells #[.slice A6 l.length c6] 22)) o7 g7 h7 (Nat.succ_le_of_lt xlt)); have S7 := Lib.hid (And.intro (cell_keep q1 b7 (by omega)) (cell_keep hcr b7 (by omega))); have S8 := Lib.hid (fun u => And.intro ((World.cell?_of_block (a := ⟨w.heap.size, 1, none⟩) (heap_set_off hne1 1 u)).trans S7.out.1) ((World.cell?_of_block (a := ⟨b, o + k, none⟩) (heap_set_off hne2 1 u)).trans S7.out.2)); clear o7 b7 g7 h7)
          | ((refine step_app Try.eRow rfl (.tmp 18) (.tmp 26) rfl rfl (w0 := wr) (own_drew (O6b.out.alloc (.cells #[.slice A6 l.length c6] 22))) (B6s.out.alloc Z6.out (.cells #[.slice A6 l.length c6] 22)).drew (size_alloc' Z6.out _) rfl (rd_drew (Rd.one w6 (.slice A6 l.length c6) 22 (Nat.lt_succ_self _))) (by simp) (by simp [Value.oneCell']) (rs'.length + 1) rfl (by omega) ?_); intro A7 c7 w7 o7 b7 g7 h7; have B7 := Lib.hid (Below.setCell (p := ⟨w4.heap.size, 1, none⟩) (BL.out.trans (b7.mono (Nat.le_succ _))) (Nat.le_refl _) (.slice A7 (rs'.length + 1) c7)); have BX7 := (b7.block w4.heap.size (Nat.lt_succ_self _)).trans BX.out; have x7 := blk_cell (j := 1) BX7; have f7 := blk_free BX7 1; have E7 := Lib.hid (blk_set BX7 1 (.slice A7 (rs'.length + 1) c7)); have OW := Lib.hid (OwnR.grow O.out O6.out B6.out ((Below.refl _ _).alloc (Nat.le_refl _) (.cells #[.slice A6 l.length c6] 22)).drew o7 g7 h7 (Nat.succ_le_of_lt xlt)); have S7 := Lib.hid (And.intro (cell_keep q1 b7 (by omega)) (cell_keep hcr b7 (by omega))); have S8 := Lib.hid (fun u => And.intro ((World.cell?_of_block (a := ⟨w.heap.size, 1, none⟩) (heap_set_off hne1 1 u)).trans S7.out.1) ((World.cell?_of_block (a := ⟨b, o + k, none⟩) (heap_set_off hne2 1 u)).trans S7.out.2)); clear o7 b7 g7 h7)
          | ((refine step_app Try.eRow rfl (.tmp 18) (.tmp 26) rfl rfl (w0 := wr) ((own_drew O6b.out).alloc (.cells #[.slice A6 l.length c6] 22)) (B6s.out.drew.alloc Z6.out (.cells #[.slice A6 l.length c6] 22)) (size_alloc' Z6.out _) rfl (Rd.one w6.drew (.slice A6 l.length c6) 22 (Nat.lt_succ_self _)) (by simp) (by simp [Value.oneCell']) (rs'.length + 1) rfl (by omega) ?_); intro A7 c7 w7 o7 b7 g7 h7; have B7 := Lib.hid (Below.setCell (p := ⟨w4.heap.size, 1, none⟩) (BL.out.trans (b7.mono (Nat.le_succ _))) (Nat.le_refl _) (.slice A7 (rs'.length + 1) c7)); have BX7 := (b7.block w4.heap.size (Nat.lt_succ_self _)).trans BX.out; have x7 := blk_cell (j := 1) BX7; have f7 := blk_free BX7 1; have E7 := Lib.hid (blk_set BX7 1 (.slice A7 (rs'.length + 1) c7)); have OW := Lib.hid (OwnR.grow O.out O6.out B6.out (((Below.refl _ _).drew).alloc (Nat.le_refl _) (.cells #[.slice A6 l.length c6] 22)) o7 g7 h7 (Nat.succ_le_of_lt xlt)); have S7 := Lib.hid (And.intro (cell_keep q1 b7 (by omega)) (cell_keep hcr b7 (by omega))); have S8 := Lib.hid (fun u => And.intro ((World.cell?_of_block (a := ⟨w.heap.size, 1, none⟩) (heap_set_off hne1 1 u)).trans S7.out.1) ((World.cell?_of_block (a := ⟨b, o + k, none⟩) (heap_set_off hne2 1 u)).trans S7.out.2)); clear o7 b7 g7 h7)
          | ((refine step_app Try.eRow rfl (.tmp 18) (.tmp 26) rfl rfl (w0 := wr) (own_drew ((own_drew O6b.out).alloc (.cells #[.slice A6 l.length c6] 22))) (B6s.out.drew.alloc Z6.out (.cells #[.slice A6 l.length c6] 22)).drew (size_alloc' Z6.out _) rfl (rd_drew (Rd.one w6.drew (.slice A6 l.length c6) 22 (Nat.lt_succ_self _))) (by simp) (by simp [Value.oneCell']) (rs'.length + 1) rfl (by omega) ?_); intro A7 c7 w7 o7 b7 g7 h7; have B7 := Lib.hid (Below.setCell (p := ⟨w4.heap.size, 1, none⟩) (BL.out.trans (b7.mono (Nat.le_succ _))) (Nat.le_refl _) (.slice A7 (rs'.length + 1) c7)); have BX7 := (b7.block w4.heap.size (Nat.lt_succ_self _)).trans BX.out; have x7 := blk_cell (j := 1) BX7; have f7 := blk_free BX7 1; have E7 := Lib.hid (blk_set BX7 1 (.slice A7 (rs'.length + 1) c7)); have OW := Lib.hid (OwnR.grow O.out O6.out B6.out (((Below.refl _ _).drew).alloc (Nat.le_refl _) (.cells #[.slice A6 l.length c6] 22)).drew o7 g7 h7 (Nat.succ_le_of_lt xlt)); have S7 := Lib.hid (And.intro (cell_keep q1 b7 (by omega)) (cell_keep hcr b7 (by omega))); have S8 := Lib.hid (fun u => And.intro ((World.cell?_of_block (a := ⟨w.heap.size, 1, none⟩) (heap_set_off hne1 1 u)).trans S7.out.1) ((World.cell?_of_block (a := ⟨b, o + k, none⟩) (heap_set_off hne2 1 u)).trans S7.out.2)); clear o7 b7 g7 h7))
      all_goals (
        go_wp2_with fail
        go_roundw
        (case rel => exact ⟨k + 1, _, rs' ++ [⟨A6, c6, l⟩], by omega, by go_num, E7.out, OW.out.set_off (Nat.lt_succ_self _) _ _, by rw [List.map_append, HM.out, List.take_add_one, hx.out]; simp, B7.out⟩)
        (case measure => simp [intOf]; omega))
    · have HLK := Lib.hid (show rs'.length = rs.length by have h1 := congrArg List.length HM.out; rw [List.length_map, List.length_map, List.length_take] at h1; omega)
      have HMe := Lib.hid (show rs'.map (·.l) = rs.map (·.l) by rw [HM.out, List.take_of_length_le (by omega)])
      obtain ⟨A7, c7, hv7, _⟩ := own_form O.out.own
      subst hv7
      have x0 := blk_cell (j := 0) BX.out
      have x1 := blk_cell (j := 1) BX.out
      have hs2 := s2
      have y := (BL.out.block _ (Nat.lt_of_lt_of_le s2 B4.out.size)).trans ((B4.out.block _ s2).trans K2.out)
      have y0 := blk_cell (j := 0) y
      have y1 := blk_cell (j := 1) y
      have f0 := blk_free y 0
      have f1 := blk_free y 1
      have b3 : decide ((k : Int) < (rs.length : Int)) = false := by rw [decide_eq_false_iff_not]; omega
      have b4 : decide (k < rs.length) = false := by rw [decide_eq_false_iff_not]; exact hlt
      clear hs2
      have L1 := Lib.hid (show W.heap.size < w4.heap.size + 1 from by have := HW4.out; omega)
      have yF := blk_set (blk_set y 0 (.slice A4 own.length c4)) 1 (.slice A7 rs'.length c7)
      have z0 := blk_cell (j := 0) yF
      have z1 := blk_cell (j := 1) yF
      have O4r := Lib.hid (own_below O4.out BL.out)
      have HF := Lib.hid (made_game (w0 := w) (own_set_off (own_set_off O4r.out (fun b hb => by have := (O4r.out.lt b hb).1; omega) 0 (.slice A4 own.length c4)) (fun b hb => by have := (O4r.out.lt b hb).1; omega) 1 (.slice A7 rs'.length c7))
        ((O.out.set_off L1.out 0 (.slice A4 own.length c4)).set_off L1.out 1 (.slice A7 rs'.length c7)) (by have := b2.size; omega) (by have := HW4.out; omega) (fun b hb => by
          have h1 := (O4.out.lt b hb).2
          exact ⟨fun h2 => by have := (O.out.own.lt b h2).1; omega, fun r hr ad ha => by have := ((O.out.row r hr).2.2.2 ad ha).1; omega⟩))
      have BF := Lib.hid (Below.setCell (Below.setCell (hb.trans (BW.out.mono (Nat.le_of_lt hz))) (p := ⟨W.heap.size, 0, none⟩) (Nat.le_of_lt hz) (.slice A4 own.length c4)) (p := ⟨W.heap.size, 1, none⟩) (Nat.le_of_lt hz) (.slice A7 rs'.length c7))
      clear hlt hk
      go_wp2_with fail
      (try simp only [Exit.inBlock, Exit.then])
      refine bodyPost_ret (v := .agg #[.slice A4 own.length c4, .slice A7 rs'.length c7]) ?_ rfl ⟨⟨A4, c4, own, A7, c7, rs'⟩, rfl, ?_, HF.out.1, HF.out.2.1, HF.out.2.2, BF.out⟩
      · rw [results_cell_one rfl]
        go_simp
      · show Gm.mk own (rs'.map (·.l)) = Gm.mk own (rs.map (·.l))
        rw [HMe.out]
end Go.Proofs.Ytldepjpalhmpnaa

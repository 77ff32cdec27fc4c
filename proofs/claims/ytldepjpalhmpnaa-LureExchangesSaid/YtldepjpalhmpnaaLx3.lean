/-
  The walk of Exchange. Conditions: the game can be read, its lists are not long.
-/
import Derived.Test.YtldepjpalhmpnaaLx2
import Derived.Test.YtldepjpalhmpnaaLb6
import Derived.Laws.ResultCell
import Derived.Deep.RegionLaw
namespace Go.Proofs.Ytldepjpalhmpnaa
open Go.RowKit
set_option linter.unusedVariables false

def exL (G : Gm) : Gm := if gE G = 0 then xG G else ⟨[], []⟩
theorem exL_ok {G : Gm} (h : gE G = 0) : exL G = xG G := if_pos h
theorem exL_bad {G : Gm} (h : ¬ gE G = 0) : exL G = ⟨[], []⟩ := if_neg h
/-- A draw ahead of a call changes nothing below. -/
theorem below_from_drew {w w' : World} (h : Below w.drew.heap.size w.drew w') : Below w.heap.size w w' := ((Below.refl w.heap.size w).drew).trans h
set_option maxRecDepth 4000 in
set_option maxHeartbeats 1600000 in
theorem Exchange_any (g : Gv) (w : World) (hr : RdG w w.heap.size g) (hf : Gfit g) (rr100 : ∀ r ∈ g.rs, r.l.length ≤ 100) :
    Calls Try.prog 7 #[g.v] w (MadeGE w (exL g.G) (gE g.G)) := by
  obtain ⟨W, hW, p0, p1, hz, hb, hr1⟩ := box_game w g 25 hr
  obtain ⟨W2, hW2, k2, s2, b2⟩ := one_blk W #[.slice none 0 0, .slice none 0 0] 25
  have HV := Lib.hid (Validate_any g W2 (hr1.up b2) hf)
  have q0 := cell_keep p0 b2 hz
  have q1 := cell_keep p1 b2 hz
  have K2 := Lib.hid k2
  have y0 := blk_cell (j := 0) k2
  have y1 := blk_cell (j := 1) k2
  have f0 := blk_free k2 0
  have f1 := blk_free k2 1
  have BW2 := Lib.hid (hb.trans (b2.mono (Nat.le_of_lt hz)))
  have HR := Lib.hid hr1
  clear hr hr1 k2
  by_cases hE : gE g.G = 0
  · have H := gE_zero hE
    have hn16 : g.own.length ≤ 16 := H.le
    have hrl : g.rs.length = g.own.length := by have := H.len; rwa [show g.G.mv.length = g.rs.length from List.length_map ..] at this
    have HRL := Lib.hid hrl
    have HWH := Lib.hid (fun (k : Nat) (d : Int) (h : g.own[k]? = some d) => (show d = 0 ∨ d = 1 by have h1 := H.who (p := k) (List.getElem?_eq_some_iff.1 h).1; rwa [who_at (G := g.G) h] at h1))
    rw [exL_ok hE]
    rw [hE] at HV ⊢
    clear hE H hrl hf
    unfold Gv.v at HV ⊢
    obtain ⟨A0, c0, own, A1, c1, rs⟩ := g
    simp only at *
    go_enter Try.func7, Try.ntmps7
    go_wp2_with fail
    refine HV.out.mono ?_
    rintro e w3 ⟨rfl, hb3⟩
    have q0' := cell_keep q0 hb3 (by omega)
    have q1' := cell_keep q1 hb3 (by omega)
    have K3 := Lib.hid ((hb3.block _ s2).trans K2.out)
    have B3 := Lib.hid hb3
    obtain ⟨W5, hW5, k5, s5, b5⟩ := one_blk w3 #[.slice none 0 0, .slice none 0 0] 25
    have r0 := cell_keep q0' b5 (by have := hb3.size; omega)
    have K5 := Lib.hid k5
    have B5 := Lib.hid b5
    have HW3 := Lib.hid (show W2.heap.size ≤ w3.heap.size from hb3.size)
    clear q0 q1 y0 y1 f0 f1 hW2 hW hb3 k5 b5
    go_wp2_with fail
    clear hW5 r0
    go_loopw [17] (fun i wr => ∃ (k : Nat) (vo vm : Value) (os : List Int) (rs' : List Rw), k ≤ own.length ∧ i = .int .i64 k ∧ ExS w3 wr w3.heap.size 3 22 25 vo vm os rs' ∧ os = (own.take k).map (fun d => 1 - d) ∧ rs'.map (·.l) = (rs.take k).map (·.l)) (fun i _ => own.length - (intOf i).toNat)
    case atStart => exact ⟨0, _, _, [], [], by omega, rfl, ⟨B5.out, K5.out, World.ownsRow_nil _ _ _ _, OwnR.nil _ _ _, fun b hb => by cases hb⟩, rfl, rfl⟩
    case round =>
      obtain ⟨k, vo, vm, os, rs', hk, rfl, hst, hos, hmap⟩ := hrel
      have ST := Lib.hid hst
      have HO := Lib.hid hos
      have HM := Lib.hid hmap
      have BW3 := Lib.hid (b2.trans (B3.out.mono (Nat.le_of_lt s2)))
      have HW3' := HW3.out
      have BW := Lib.hid (BW3.out.trans (hst.b.mono (by omega)))
      have q1 := cell_keep q1' hst.b (by omega)
      have RGb := HR.out.below BW.out (Nat.le_refl _)
      have hbx := lt_of_block hst.x
      clear hst hos hmap
      by_cases hlt : k < own.length
      · have hltr : k < rs.length := by have := HRL.out; omega
        obtain ⟨ob, oo, d, rfl, hd, hdc⟩ := RGb.o.int k hlt
        have HD := Lib.hid (show 0 ≤ d ∧ d ≤ 1 by rcases HWH.out k d hd.out with h | h <;> omega)
        have HLo := Lib.hid (show os.length = k by rw [HO.out, List.length_map, List.length_take]; omega)
        have HLr := Lib.hid (show rs'.length = k by have h1 := congrArg List.length HM.out; rw [List.length_map, List.length_map, List.length_take] at h1; omega)
        have ho1 : os.length ≤ 100 := by have := HLo.out; omega
        have ho2 : rs'.length ≤ 100 := by have := HLr.out; omega
        have hqb : w.heap.size < w3.heap.size + 1 := by omega
        have hne1 : w.heap.size ≠ w3.heap.size := Nat.ne_of_lt (by omega)
        have hszr : w3.heap.size + 1 ≤ wr.heap.size := hbx
        have hWr : W.heap.size ≤ wr.heap.size := by omega
        have BR := Lib.hid (Below.refl (w3.heap.size + 1) wr)
        have x0 := blk_cell (j := 0) ST.out.x
        have C := Lib.hid (fun w => opponent_any d w HD.out.1 HD.out.2)
        have xa := cell_up (o := .cells #[.int .i64 (1 - d)] 3) x0
        have xb := cell_up (w := wr.drew) (o := .cells #[.int .i64 (1 - d)] 3) (show wr.drew.cell? ⟨w3.heap.size, 0, none⟩ = some vo from x0)
        go_wp2_with fail
        go_region_law (first
            | (go_simp; go_at_call 16; refine (C.out _).mono ?_; rintro e w' ⟨rfl, rfl⟩)
            | ((refine step_app Try.eInt rfl (.tmp 23) (.tmp 26) rfl rfl (B := w3.heap.size + 1) (w0 := wr) (ST.out.o.alloc (.cells #[.int .i64 (1 - d)] 3)) (BR.out.alloc hszr (.cells #[.int .i64 (1 - d)] 3)) (Nat.le_trans hszr (Below.size (BR.out.alloc hszr (.cells #[.int .i64 (1 - d)] 3)))) rfl (Rd.one wr (.int .i64 (1 - d)) 3 (Nat.lt_succ_self _)) (by simp) (by simp [Value.oneCell']) (os.length + 1) rfl (by omega) ?_); intro A7 c7 w7 o7 b7 g7 h7; have BX7 := (b7.block w3.heap.size (Nat.lt_succ_self _)).trans ST.out.x; have x7 := blk_cell (j := 0) BX7; have f7 := blk_free BX7 0; have S8 := Lib.hid (fun u => (fun h => And.intro h h) ((World.cell?_of_block (a := ⟨w.heap.size, 1, none⟩) (heap_set_off (w := w7) hne1 0 u)).trans (cell_keep q1 b7 hqb))); have S7 := Lib.hid (And.intro (cell_keep q1 b7 hqb) (cell_keep q1 b7 hqb)); have EX := Lib.hid (ExS.owner ST.out ((Below.refl _ _).alloc (Nat.le_refl _) (.cells #[.int .i64 (1 - d)] 3)) o7 g7 h7 b7); clear o7 b7 g7 h7)
            | ((refine step_app Try.eInt rfl (.tmp 23) (.tmp 26) rfl rfl (B := w3.heap.size + 1) (w0 := wr) (own_drew (ST.out.o.alloc (.cells #[.int .i64 (1 - d)] 3))) (BR.out.alloc hszr (.cells #[.int .i64 (1 - d)] 3)).drew (Nat.le_trans hszr (Below.size (BR.out.alloc hszr (.cells #[.int .i64 (1 - d)] 3)).drew)) rfl (rd_drew (Rd.one wr (.int .i64 (1 - d)) 3 (Nat.lt_succ_self _))) (by simp) (by simp [Value.oneCell']) (os.length + 1) rfl (by omega) ?_); intro A7 c7 w7 o7 b7 g7 h7; have BX7 := (b7.block w3.heap.size (Nat.lt_succ_self _)).trans ST.out.x; have x7 := blk_cell (j := 0) BX7; have f7 := blk_free BX7 0; have S8 := Lib.hid (fun u => (fun h => And.intro h h) ((World.cell?_of_block (a := ⟨w.heap.size, 1, none⟩) (heap_set_off (w := w7) hne1 0 u)).trans (cell_keep q1 b7 hqb))); have S7 := Lib.hid (And.intro (cell_keep q1 b7 hqb) (cell_keep q1 b7 hqb)); have EX := Lib.hid (ExS.owner ST.out ((Below.refl _ _).alloc (Nat.le_refl _) (.cells #[.int .i64 (1 - d)] 3)).drew o7 g7 h7 b7); clear o7 b7 g7 h7)
            | ((refine step_app Try.eInt rfl (.tmp 23) (.tmp 26) rfl rfl (B := w3.heap.size + 1) (w0 := wr) ((own_drew ST.out.o).alloc (.cells #[.int .i64 (1 - d)] 3)) (BR.out.drew.alloc hszr (.cells #[.int .i64 (1 - d)] 3)) (Nat.le_trans hszr (Below.size (BR.out.drew.alloc hszr (.cells #[.int .i64 (1 - d)] 3)))) rfl (Rd.one wr.drew (.int .i64 (1 - d)) 3 (Nat.lt_succ_self _)) (by simp) (by simp [Value.oneCell']) (os.length + 1) rfl (by omega) ?_); intro A7 c7 w7 o7 b7 g7 h7; have BX7 := (b7.block w3.heap.size (Nat.lt_succ_self _)).trans ST.out.x; have x7 := blk_cell (j := 0) BX7; have f7 := blk_free BX7 0; have S8 := Lib.hid (fun u => (fun h => And.intro h h) ((World.cell?_of_block (a := ⟨w.heap.size, 1, none⟩) (heap_set_off (w := w7) hne1 0 u)).trans (cell_keep q1 b7 hqb))); have S7 := Lib.hid (And.intro (cell_keep q1 b7 hqb) (cell_keep q1 b7 hqb)); have EX := Lib.hid (ExS.owner ST.out (((Below.refl _ _).drew).alloc (Nat.le_refl _) (.cells #[.int .i64 (1 - d)] 3)) o7 g7 h7 b7); clear o7 b7 g7 h7)
            | ((refine step_app Try.eInt rfl (.tmp 23) (.tmp 26) rfl rfl (B := w3.heap.size + 1) (w0 := wr) (own_drew ((own_drew ST.out.o).alloc (.cells #[.int .i64 (1 - d)] 3))) (BR.out.drew.alloc hszr (.cells #[.int .i64 (1 - d)] 3)).drew (Nat.le_trans hszr (Below.size (BR.out.drew.alloc hszr (.cells #[.int .i64 (1 - d)] 3)).drew)) rfl (rd_drew (Rd.one wr.drew (.int .i64 (1 - d)) 3 (Nat.lt_succ_self _))) (by simp) (by simp [Value.oneCell']) (os.length + 1) rfl (by omega) ?_); intro A7 c7 w7 o7 b7 g7 h7; have BX7 := (b7.block w3.heap.size (Nat.lt_succ_self _)).trans ST.out.x; have x7 := blk_cell (j := 0) BX7; have f7 := blk_free BX7 0; have S8 := Lib.hid (fun u => (fun h => And.intro h h) ((World.cell?_of_block (a := ⟨w.heap.size, 1, none⟩) (heap_set_off (w := w7) hne1 0 u)).trans (cell_keep q1 b7 hqb))); have S7 := Lib.hid (And.intro (cell_keep q1 b7 hqb) (cell_keep q1 b7 hqb)); have EX := Lib.hid (ExS.owner ST.out (((Below.refl _ _).drew).alloc (Nat.le_refl _) (.cells #[.int .i64 (1 - d)] 3)).drew o7 g7 h7 b7); clear o7 b7 g7 h7))
        all_goals (
          obtain ⟨w8, hw8⟩ : ∃ w8, w7.setCell ⟨w3.heap.size, 0, none⟩ (.slice A7 (os.length + 1) c7) = w8 := ⟨_, rfl⟩
          rw [hw8] at EX ⊢
          clear hw8
          have BW := Lib.hid (BW3.out.trans (EX.out.b.mono (by omega)))
          have q1 := cell_keep q1' EX.out.b (by omega)
          have RGb := HR.out.below BW.out (Nat.le_refl _)
          obtain ⟨b, o, A', c', l, rfl, hx, hcr, hrd⟩ := RGb.r.row k hltr
          have hbW : b < W.heap.size := by
            obtain ⟨b', o', ha, hb', _⟩ := RGb.r.1.at_ (k := k) (u := (rs[k]).v) (by rw [List.getElem?_map, List.getElem?_eq_getElem hltr]; rfl)
            cases ha
            exact hb'
          have hl100 : l.length ≤ 100 := rr100 _ (List.mem_of_getElem? hx.out)
          have hlm : l.length ≤ maxLen := by simp only [maxLen]; omega
          have hbb : b < w3.heap.size + 1 := by omega
          have hne2 : b ≠ w3.heap.size := Nat.ne_of_lt (by omega)
          have hbx8 : w3.heap.size + 1 ≤ w8.heap.size := lt_of_block EX.out.x
          have hW8 : W.heap.size ≤ w8.heap.size := by omega
          have x1 := blk_cell (j := 1) EX.out.x
          have CC := Lib.hid (copyOf_any A' c' l w8 (hrd.out.more hW8) (by omega))
          have CD := Lib.hid (copyOf_any A' c' l w8.drew (rd_drew (hrd.out.more hW8)) (by omega))
          clear x7 f7 S7 S8 BX7 ST
          have ST := EX
          clear EX
          go_wp2_with fail
          go_region_law (first
              | (go_simp; go_at_call 17; (first | (refine CC.out.mono ?_; rintro e w6 ⟨rfl, hg6, hb6⟩; have B6 := Lib.hid hb6) | (refine CD.out.mono ?_; rintro e w6 ⟨rfl, hg6, hb6⟩; have B6 := Lib.hid (below_from_drew hb6))); have HG6 := Lib.hid (show w6.heap[w8.heap.size]? = _ from hg6.out); have x6 := cell_keep x1 B6.out hbx8; have x6a := cell_up (o := .cells #[.slice (some ⟨w8.heap.size, 0, none⟩) l.length l.length] 22) x6; have x6b := cell_up (w := w6.drew) (o := .cells #[.slice (some ⟨w8.heap.size, 0, none⟩) l.length l.length] 22) (show w6.drew.cell? ⟨w3.heap.size, 1, none⟩ = some vm from x6); have S6 := Lib.hid (And.intro (cell_keep q1 B6.out (by omega)) (cell_keep hcr B6.out (by omega))); have OM6 := Lib.hid (own_below ST.out.m.own B6.out); have Z6 := Lib.hid (Nat.le_trans hbx8 B6.out.size); have B6s := Lib.hid (B6.out.mono hbx8); clear hg6 hb6)
              | ((refine step_app Try.eRow rfl (.tmp 30) (.tmp 37) rfl rfl (B := w3.heap.size + 1) (w0 := w8) (OM6.out.alloc (.cells #[.slice (some ⟨w8.heap.size, 0, none⟩) l.length l.length] 22)) (B6s.out.alloc Z6.out (.cells #[.slice (some ⟨w8.heap.size, 0, none⟩) l.length l.length] 22)) (Nat.le_trans hbx8 (Below.size (B6s.out.alloc Z6.out (.cells #[.slice (some ⟨w8.heap.size, 0, none⟩) l.length l.length] 22)))) rfl (Rd.one w6 (.slice (some ⟨w8.heap.size, 0, none⟩) l.length l.length) 22 (Nat.lt_succ_self _)) (by simp) (by simp [Value.oneCell']) (rs'.length + 1) rfl (by omega) ?_); intro A9 c9 w9 o9 b9 g9 h9; have BX9 := (b9.block w3.heap.size (Nat.lt_succ_self _)).trans ST.out.x; have x9 := blk_cell (j := 1) BX9; have f9 := blk_free BX9 1; have S9 := Lib.hid (And.intro (cell_keep q1 b9 hqb) (cell_keep hcr b9 hbb)); have S10 := Lib.hid (fun u => And.intro ((World.cell?_of_block (a := ⟨w.heap.size, 1, none⟩) (heap_set_off (w := w9) hne1 1 u)).trans S9.out.1) ((World.cell?_of_block (a := ⟨b, o + k, none⟩) (heap_set_off (w := w9) hne2 1 u)).trans S9.out.2)); have EX := Lib.hid (ExS.row ST.out HG6.out (Nat.le_refl _) hlm B6.out ((Below.refl _ _).alloc (Nat.le_refl _) (.cells #[.slice (some ⟨w8.heap.size, 0, none⟩) l.length l.length] 22)) o9 g9 h9 b9); clear o9 b9 g9 h9)
              | ((refine step_app Try.eRow rfl (.tmp 30) (.tmp 37) rfl rfl (B := w3.heap.size + 1) (w0 := w8) (own_drew (OM6.out.alloc (.cells #[.slice (some ⟨w8.heap.size, 0, none⟩) l.length l.length] 22))) (B6s.out.alloc Z6.out (.cells #[.slice (some ⟨w8.heap.size, 0, none⟩) l.length l.length] 22)).drew (Nat.le_trans hbx8 (Below.size (B6s.out.alloc Z6.out (.cells #[.slice (some ⟨w8.heap.size, 0, none⟩) l.length l.length] 22)).drew)) rfl (rd_drew (Rd.one w6 (.slice (some ⟨w8.heap.size, 0, none⟩) l.length l.length) 22 (Nat.lt_succ_self _))) (by simp) (by simp [Value.oneCell']) (rs'.length + 1) rfl (by omega) ?_); intro A9 c9 w9 o9 b9 g9 h9; have BX9 := (b9.block w3.heap.size (Nat.lt_succ_self _)).trans ST.out.x; have x9 := blk_cell (j := 1) BX9; have f9 := blk_free BX9 1; have S9 := Lib.hid (And.intro (cell_keep q1 b9 hqb) (cell_keep hcr b9 hbb)); have S10 := Lib.hid (fun u => And.intro ((World.cell?_of_block (a := ⟨w.heap.size, 1, none⟩) (heap_set_off (w := w9) hne1 1 u)).trans S9.out.1) ((World.cell?_of_block (a := ⟨b, o + k, none⟩) (heap_set_off (w := w9) hne2 1 u)).trans S9.out.2)); have EX := Lib.hid (ExS.row ST.out HG6.out (Nat.le_refl _) hlm B6.out ((Below.refl _ _).alloc (Nat.le_refl _) (.cells #[.slice (some ⟨w8.heap.size, 0, none⟩) l.length l.length] 22)).drew o9 g9 h9 b9); clear o9 b9 g9 h9)
              | ((refine step_app Try.eRow rfl (.tmp 30) (.tmp 37) rfl rfl (B := w3.heap.size + 1) (w0 := w8) ((own_drew OM6.out).alloc (.cells #[.slice (some ⟨w8.heap.size, 0, none⟩) l.length l.length] 22)) (B6s.out.drew.alloc Z6.out (.cells #[.slice (some ⟨w8.heap.size, 0, none⟩) l.length l.length] 22)) (Nat.le_trans hbx8 (Below.size (B6s.out.drew.alloc Z6.out (.cells #[.slice (some ⟨w8.heap.size, 0, none⟩) l.length l.length] 22)))) rfl (Rd.one w6.drew (.slice (some ⟨w8.heap.size, 0, none⟩) l.length l.length) 22 (Nat.lt_succ_self _)) (by simp) (by simp [Value.oneCell']) (rs'.length + 1) rfl (by omega) ?_); intro A9 c9 w9 o9 b9 g9 h9; have BX9 := (b9.block w3.heap.size (Nat.lt_succ_self _)).trans ST.out.x; have x9 := blk_cell (j := 1) BX9; have f9 := blk_free BX9 1; have S9 := Lib.hid (And.intro (cell_keep q1 b9 hqb) (cell_keep hcr b9 hbb)); have S10 := Lib.hid (fun u => And.intro ((World.cell?_of_block (a := ⟨w.heap.size, 1, none⟩) (heap_set_off (w := w9) hne1 1 u)).trans S9.out.1) ((World.cell?_of_block (a := ⟨b, o + k, none⟩) (heap_set_off (w := w9) hne2 1 u)).trans S9.out.2)); have EX := Lib.hid (ExS.row ST.out HG6.out (Nat.le_refl _) hlm B6.out (((Below.refl _ _).drew).alloc (Nat.le_refl _) (.cells #[.slice (some ⟨w8.heap.size, 0, none⟩) l.length l.length] 22)) o9 g9 h9 b9); clear o9 b9 g9 h9)
              | ((refine step_app Try.eRow rfl (.tmp 30) (.tmp 37) rfl rfl (B := w3.heap.size + 1) (w0 := w8) (own_drew ((own_drew OM6.out).alloc (.cells #[.slice (some ⟨w8.heap.size, 0, none⟩) l.length l.length] 22))) (B6s.out.drew.alloc Z6.out (.cells #[.slice (some ⟨w8.heap.size, 0, none⟩) l.length l.length] 22)).drew (Nat.le_trans hbx8 (Below.size (B6s.out.drew.alloc Z6.out (.cells #[.slice (some ⟨w8.heap.size, 0, none⟩) l.length l.length] 22)).drew)) rfl (rd_drew (Rd.one w6.drew (.slice (some ⟨w8.heap.size, 0, none⟩) l.length l.length) 22 (Nat.lt_succ_self _))) (by simp) (by simp [Value.oneCell']) (rs'.length + 1) rfl (by omega) ?_); intro A9 c9 w9 o9 b9 g9 h9; have BX9 := (b9.block w3.heap.size (Nat.lt_succ_self _)).trans ST.out.x; have x9 := blk_cell (j := 1) BX9; have f9 := blk_free BX9 1; have S9 := Lib.hid (And.intro (cell_keep q1 b9 hqb) (cell_keep hcr b9 hbb)); have S10 := Lib.hid (fun u => And.intro ((World.cell?_of_block (a := ⟨w.heap.size, 1, none⟩) (heap_set_off (w := w9) hne1 1 u)).trans S9.out.1) ((World.cell?_of_block (a := ⟨b, o + k, none⟩) (heap_set_off (w := w9) hne2 1 u)).trans S9.out.2)); have EX := Lib.hid (ExS.row ST.out HG6.out (Nat.le_refl _) hlm B6.out (((Below.refl _ _).drew).alloc (Nat.le_refl _) (.cells #[.slice (some ⟨w8.heap.size, 0, none⟩) l.length l.length] 22)).drew o9 g9 h9 b9); clear o9 b9 g9 h9))
          all_goals (
            go_wp2_with fail
            go_roundw
            (case rel => exact ⟨k + 1, _, _, os ++ [1 - d], rs' ++ [⟨some ⟨w8.heap.size, 0, none⟩, l.length, l⟩], by omega, by go_num, EX.out, by rw [HO.out, List.take_add_one, hd.out]; simp, by rw [List.map_append, HM.out, List.take_add_one, hx.out]; simp⟩)
            (case measure => simp [intOf]; omega)))
      · have HLo := Lib.hid (show os.length = own.length by rw [HO.out, List.length_map, List.length_take]; omega)
        have HLr := Lib.hid (show rs'.length = rs.length by have h1 := congrArg List.length HM.out; have h2 := HRL.out; rw [List.length_map, List.length_map, List.length_take] at h1; omega)
        have HOe := Lib.hid (show os = own.map (fun d => 1 - d) by rw [HO.out, List.take_of_length_le (by omega)])
        have HMe := Lib.hid (show rs'.map (·.l) = rs.map (·.l) by rw [HM.out, List.take_of_length_le (by have := HRL.out; omega)])
        obtain ⟨A7, c7, hv7, _⟩ := own_form ST.out.o
        subst hv7
        obtain ⟨A9, c9, hv9, _⟩ := own_form ST.out.m.own
        subst hv9
        have x0 := blk_cell (j := 0) ST.out.x
        have x1 := blk_cell (j := 1) ST.out.x
        have hs2 := s2
        have y := (ST.out.b.block _ (Nat.lt_of_lt_of_le s2 HW3')).trans K3.out
        have y0 := blk_cell (j := 0) y
        have y1 := blk_cell (j := 1) y
        have f0 := blk_free y 0
        have f1 := blk_free y 1
        have b3 : decide ((k : Int) < (own.length : Int)) = false := by rw [decide_eq_false_iff_not]; omega
        have b4 : decide (k < own.length) = false := by rw [decide_eq_false_iff_not]; exact hlt
        clear hs2
        have yF := blk_set (blk_set y 0 (.slice A7 os.length c7)) 1 (.slice A9 rs'.length c9)
        have z0 := blk_cell (j := 0) yF
        have z1 := blk_cell (j := 1) yF
        have HF := Lib.hid (ExS.made (wS := w) ST.out (by have := hb.size; omega) (q := W.heap.size) (by omega) (.slice A7 os.length c7) (.slice A9 rs'.length c9))
        have BF := Lib.hid (Below.setCell (Below.setCell (hb.trans (BW.out.mono (Nat.le_of_lt hz))) (p := ⟨W.heap.size, 0, none⟩) (Nat.le_of_lt hz) (.slice A7 os.length c7)) (p := ⟨W.heap.size, 1, none⟩) (Nat.le_of_lt hz) (.slice A9 rs'.length c9))
        clear hlt hk
        go_wp2_with fail
        (try simp only [Exit.inBlock, Exit.then])
        refine bodyPost_ret (v := .tuple #[.agg #[.slice A7 os.length c7, .slice A9 rs'.length c9], .int .i64 0]) ?_ rfl ⟨⟨A7, c7, os, A9, c9, rs'⟩, rfl, ?_, HF.out.1, HF.out.2.1, HF.out.2.2, BF.out⟩
        · rw [results_cell_tmp rfl]
          go_simp
        · show Gm.mk os (rs'.map (·.l)) = Gm.mk (own.map fun d => 1 - d) (rs.map (·.l))
          rw [HMe.out, HOe.out]
  · rw [exL_bad hE]
    have HE := Lib.hid (show gE g.G ≠ 0 from hE)
    have hE2 : (gE g.G != 0) = true := by simp [hE]
    have y := K2.out
    clear y0 y1 f0 f1
    have BW := Lib.hid BW2.out
    clear hE
    unfold Gv.v at HV ⊢
    go_enter Try.func7, Try.ntmps7
    go_wp2_with fail
    refine HV.out.mono ?_
    rintro e w3 ⟨rfl, hb3⟩
    have q0' := cell_keep q0 hb3 (by omega)
    have y' := (hb3.block _ s2).trans y
    have y0 := blk_cell (j := 0) y'
    have y1 := blk_cell (j := 1) y'
    have f0 := blk_free y' 0
    have f1 := blk_free y' 1
    have yF := blk_set (blk_set y' 0 (.slice none 0 0)) 1 (.slice none 0 0)
    have z0 := blk_cell (j := 0) yF
    have z1 := blk_cell (j := 1) yF
    have BF := Lib.hid (Below.setCell (Below.setCell (BW.out.trans (hb3.mono (by have := BW.out.size; omega))) (p := ⟨W.heap.size, 0, none⟩) (Nat.le_of_lt hz) (.slice none 0 0)) (p := ⟨W.heap.size, 1, none⟩) (Nat.le_of_lt hz) (.slice none 0 0))
    go_wp2_with fail
    (try simp only [Exit.inBlock, Exit.then])
    refine bodyPost_ret (v := .tuple #[.agg #[.slice none 0 0, .slice none 0 0], .int .i64 (gE g.G)]) ?_ rfl ⟨⟨none, 0, [], none, 0, []⟩, rfl, rfl, ⟨Nat.le_refl _, by simp [maxLen], Nat.le_refl _, by simp [maxLen], fun r hr => (by cases hr)⟩, ⟨.inl rfl, .inl rfl, fun r hr => (by cases hr)⟩, ⟨fun ad ha => (by cases ha), fun r hr => (by cases hr), fun ad ad' ha => (by cases ha), fun r hr => (by cases hr), fun r hr => (by cases hr), fun ad ha => (by cases ha)⟩, BF.out⟩
    rw [results_cell_tmp rfl]
    go_simp
end Go.Proofs.Ytldepjpalhmpnaa

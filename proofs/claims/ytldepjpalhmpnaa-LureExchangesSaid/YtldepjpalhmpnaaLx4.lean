/-
  The walk of the reference's Exchange. Conditions: the game can be read, its lists are not long.
-/
import Derived.Test.YtldepjpalhmpnaaLx3
import Derived.Test.YtldepjpalhmpnaaRwt
namespace Go.Proofs.Ytldepjpalhmpnaa
open Go.RowKit
set_option linter.unusedVariables false

set_option maxRecDepth 4000 in
set_option maxHeartbeats 1600000 in
theorem rExchange_any (g : Gv) (w : World) (hr : RdG w w.heap.size g) (hf : Gfit g) (n100 : g.own.length ≤ 100) (r100 : g.rs.length ≤ 100) (rr100 : ∀ r ∈ g.rs, r.l.length ≤ 100) :
    Calls Try.prog 8 #[g.v] w (MadeGE w (exL g.G) (gE g.G)) := by
  obtain ⟨W, hW, p0, p1, hz, hb, hr1⟩ := box_game w g 25 hr
  obtain ⟨W2, hW2, k2, s2, b2⟩ := one_blk W #[.slice none 0 0, .slice none 0 0] 25
  have HV := Lib.hid (rValidate_any g W2 (hr1.up b2) hf)
  have q0 := cell_keep p0 b2 hz
  have q1 := cell_keep p1 b2 hz
  have K2 := Lib.hid k2
  have y0 := blk_cell (j := 0) k2
  have y1 := blk_cell (j := 1) k2
  have f0 := blk_free k2 0
  have f1 := blk_free k2 1
  have BW2 := Lib.hid (hb.trans (b2.mono (Nat.le_of_lt hz)))
  have HR := Lib.hid (hr1.up b2)
  clear hr hr1 k2
  by_cases hE : gE g.G = 0
  · have H := gE_zero hE
    have hn16 : g.own.length ≤ 16 := H.le
    have HWH := Lib.hid (fun (k : Nat) (d : Int) (h : g.own[k]? = some d) => (show d = 0 ∨ d = 1 by have h1 := H.who (p := k) (List.getElem?_eq_some_iff.1 h).1; rwa [who_at (G := g.G) h] at h1))
    have CP := Lib.hid (fun w h => rCopy_any g w h hf n100 r100 rr100)
    rw [exL_ok hE]
    rw [hE] at HV ⊢
    clear hE H hf n100 r100 rr100
    unfold Gv.v at HV CP ⊢
    obtain ⟨A0, c0, own, A1, c1, rs⟩ := g
    simp only at *
    go_enter Try.func8, Try.ntmps8
    go_wp2_with fail
    refine HV.out.mono ?_
    rintro e w3 ⟨rfl, hb3⟩
    have q0' := cell_keep q0 hb3 (by omega)
    have q1' := cell_keep q1 hb3 (by omega)
    have K3 := Lib.hid ((hb3.block _ s2).trans K2.out)
    have B3 := Lib.hid hb3
    have R3 := Lib.hid (HR.out.up hb3)
    have HW3 := Lib.hid (show W2.heap.size ≤ w3.heap.size from hb3.size)
    clear q0 q1 y0 y1 f0 f1 hW2 hW hb3
    go_wp2_with fail
    refine (CP.out w3 R3.out).mono ?_
    rintro e w4 ⟨g', rfl, hG, hf4, hr4, ha4, hb4⟩
    obtain ⟨A0', c0', own', A1', c1', rs'⟩ := g'
    have hown : own' = own := congrArg Gm.own hG
    have HM := Lib.hid (show rs'.map (·.l) = rs.map (·.l) from congrArg Gm.mv hG)
    subst hown
    obtain ⟨W5, hW5, k5, s5, b5⟩ := one_blk w4 #[.slice A0' own'.length c0', .slice A1' rs'.length c1'] 25
    have K5 := Lib.hid k5
    have B5 := Lib.hid b5
    have F4 := Lib.hid hf4
    have R4 := Lib.hid hr4
    have P4 := Lib.hid ha4
    have B4 := Lib.hid hb4
    have HW4 := Lib.hid (show w3.heap.size ≤ w4.heap.size from hb4.size)
    clear hG hf4 hr4 ha4 hb4 k5 b5
    unfold Gv.v
    simp only
    go_wp2_with fail
    clear hW5
    go_loopw [6] (fun i wr => ∃ (k : Nat), k ≤ own'.length ∧ i = .int .i64 k ∧ wr.heap[w4.heap.size]? = some (.cells #[.slice A0' own'.length c0', .slice A1' rs'.length c1'] 25 (0, 0)) ∧ RdG wr w4.heap.size ⟨A0', c0', xoL own' k, A1', c1', rs'⟩ ∧ Apart w3 wr ⟨A0', c0', xoL own' k, A1', c1', rs'⟩ ∧ Below w3.heap.size w3 wr) (fun i _ => own'.length - (intOf i).toNat)
    case atStart => exact ⟨0, by omega, rfl, K5.out, by rw [xo_zero]; exact R4.out.below B5.out (Nat.le_refl _), by rw [xo_zero]; exact P4.out.up B5.out, B4.out.trans (B5.out.mono HW4.out)⟩
    case round =>
      obtain ⟨k, hk, rfl, hx, hrd, hap, hbl⟩ := hrel
      have X := Lib.hid hx
      have RD := Lib.hid hrd
      have AP := Lib.hid hap
      have BL := Lib.hid hbl
      clear hx hrd hap hbl
      have x0 := blk_cell (j := 0) X.out
      have x1 := blk_cell (j := 1) X.out
      by_cases hlt : k < own'.length
      · obtain ⟨b, o, d, rfl, hd, hdc⟩ := RD.out.o.int k (by rw [xo_len]; exact hlt)
        obtain ⟨d', hd'⟩ : ∃ d', own'[k]? = some d' := ⟨_, List.getElem?_eq_getElem hlt⟩
        have hdd : d' = d := by have h1 := xo_at hd'; rw [hd.out] at h1; exact (Option.some.inj h1).symm
        subst hdd
        have HN := Lib.hid (xo_next hd')
        have hw : IntKind.i64.wrap (1 - d') = 1 - d' := by rw [IntKind.wrap_i64]; rcases HWH.out k d' hd' with h | h <;> omega
        have fr := (AP.out.f0 _ rfl).2.free (o + k)
        have ST := Lib.hid (set_own RD.out AP.out (k := k) (by rw [xo_len]; exact hlt) (1 - d'))
        have hb1 : w3.heap.size ≤ b := (AP.out.f0 _ rfl).1
        have hb2 : b < w4.heap.size := by
          rcases RD.out.o with h0 | ⟨b', o', ha, hb', _⟩
          · have h1 := congrArg List.length h0; rw [ints_length, xo_len] at h1; exact absurd h1 (by show own'.length ≠ 0; omega)
          · cases ha; exact hb'
        have BS := Lib.hid (Below.setCell (p := ⟨b, o + k, none⟩) BL.out hb1 (.int .i64 (1 - d')))
        have XS := Lib.hid ((heap_set_off (w := wr) (Nat.ne_of_gt hb2) (o + k) (.int .i64 (1 - d'))).trans X.out)
        clear hd' hd
        go_wp2_with fail
        go_region
        all_goals (
          go_wp2_with fail
          go_roundw
          (case rel => exact ⟨k + 1, by omega, by go_num, XS.out, by rw [HN.out]; exact ST.out.1.below ((Below.refl w4.heap.size _).drew) (Nat.le_refl _), by rw [HN.out]; exact ST.out.2.up (Below.refl _ _).drew, BS.out.drew⟩)
          (case measure => simp [intOf]; omega))
      · have HLo := Lib.hid (show xoL own' k = own'.map (fun d => 1 - d) from xo_all (by omega))
        have HW3' := HW3.out
        have HW4' := HW4.out
        have y := (BL.out.block _ (Nat.lt_of_lt_of_le s2 HW3')).trans K3.out
        have y0 := blk_cell (j := 0) y
        have y1 := blk_cell (j := 1) y
        have f0 := blk_free y 0
        have f1 := blk_free y 1
        have b3 : decide ((k : Int) < (own'.length : Int)) = false := by rw [decide_eq_false_iff_not]; omega
        have b4 : decide (k < own'.length) = false := by rw [decide_eq_false_iff_not]; exact hlt
        have yF := blk_set (blk_set y 0 (.slice A0' own'.length c0')) 1 (.slice A1' rs'.length c1')
        have z0 := blk_cell (j := 0) yF
        have z1 := blk_cell (j := 1) yF
        have hb4 : w4.heap.size ≤ wr.heap.size := Nat.le_of_lt (lt_of_block X.out)
        have hq : W.heap.size < w3.heap.size := by omega
        have G1 := game_off RD.out AP.out hq 0 (.slice A0' own'.length c0')
        have G2 := Lib.hid (game_off G1.1 G1.2 hq 1 (.slice A1' rs'.length c1'))
        have BF := Lib.hid (Below.setCell (Below.setCell (hb.trans ((b2.trans ((B3.out.trans (BL.out.mono HW3')).mono (Nat.le_of_lt s2))).mono (Nat.le_of_lt hz))) (p := ⟨W.heap.size, 0, none⟩) (Nat.le_of_lt hz) (.slice A0' own'.length c0')) (p := ⟨W.heap.size, 1, none⟩) (Nat.le_of_lt hz) (.slice A1' rs'.length c1'))
        have HWw := Lib.hid (show w.heap.size ≤ w3.heap.size by omega)
        have H4 := Lib.hid hb4
        clear hlt hk hb4 hq G1
        go_wp2_with fail
        (try simp only [Exit.inBlock, Exit.then])
        refine bodyPost_ret (v := .tuple #[.agg #[.slice A0' own'.length c0', .slice A1' rs'.length c1'], .int .i64 0]) ?_ rfl ⟨⟨A0', c0', xoL own' k, A1', c1', rs'⟩, by unfold Gv.v; simp only [xo_len], ?_, ?_, G2.out.1.more (by rw [size_set, size_set]; exact H4.out), G2.out.2.less HWw.out, BF.out⟩
        · rw [results_cell_tmp rfl]
          go_simp
        · show Gm.mk (xoL own' k) (rs'.map (·.l)) = Gm.mk (own'.map fun d => 1 - d) (rs.map (·.l))
          rw [HM.out, HLo.out]
        · exact ⟨by show (xoL own' k).length ≤ c0'; rw [xo_len]; exact F4.out.n0, F4.out.m0, F4.out.n1, F4.out.m1, F4.out.rs⟩
  · rw [exL_bad hE]
    have HE := Lib.hid (show gE g.G ≠ 0 from hE)
    have hE2 : (gE g.G != 0) = true := by simp [hE]
    have y := K2.out
    clear y0 y1 f0 f1
    have BW := Lib.hid BW2.out
    clear hE
    unfold Gv.v at HV ⊢
    go_enter Try.func8, Try.ntmps8
    go_wp2_with fail
    refine HV.out.mono ?_
    rintro e w3 ⟨rfl, hb3⟩
    have q0' := cell_keep q0 hb3 (by omega)
    have y' := (hb3.block _ s2).trans y
    have y0 := blk_cell (j := 0) y'
    have y1 := blk_cell (j := 1) y'
    have f0 := blk_free y' 0
    have f1 := blk_free y' 1
    have yF := blk_set (blk_set y' 0 (.slice none 0 0)) 1 (.slice none 0 0)
    have z0 := blk_cell (j := 0) yF
    have z1 := blk_cell (j := 1) yF
    have BF := Lib.hid (Below.setCell (Below.setCell (BW.out.trans (hb3.mono (by have := BW.out.size; omega))) (p := ⟨W.heap.size, 0, none⟩) (Nat.le_of_lt hz) (.slice none 0 0)) (p := ⟨W.heap.size, 1, none⟩) (Nat.le_of_lt hz) (.slice none 0 0))
    go_wp2_with fail
    (try simp only [Exit.inBlock, Exit.then])
    refine bodyPost_ret (v := .tuple #[.agg #[.slice none 0 0, .slice none 0 0], .int .i64 (gE g.G)]) ?_ rfl ⟨⟨none, 0, [], none, 0, []⟩, rfl, rfl, ⟨Nat.le_refl _, by simp [maxLen], Nat.le_refl _, by simp [maxLen], fun r hr => (by cases hr)⟩, ⟨.inl rfl, .inl rfl, fun r hr => (by cases hr)⟩, ⟨fun ad ha => (by cases ha), fun r hr => (by cases hr), fun ad ad' ha => (by cases ha), fun r hr => (by cases hr), fun r hr => (by cases hr), fun ad ha => (by cases ha)⟩, BF.out⟩
    rw [results_cell_tmp rfl]
    go_simp
end Go.Proofs.Ytldepjpalhmpnaa

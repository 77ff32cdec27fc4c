/-
  The search for pays and balances: the walk of begin. Condition: the purse is valid.
-/
import Derived.Test.YtfmhanpibgmgfaaPuf
namespace Go.Proofs.Ytfmhanpibgmgfaa
open Go.RowKit
set_option linter.unusedVariables false

theorem va_up {v : List Int} (h : upB 1000 v = true) (n : Nat) : upB 10000000 (rowF (vaF v) n) = true := List.all_eq_true.2 fun x hx => by
  obtain ⟨k, _, rfl⟩ := List.mem_map.1 hx
  have := upB_nth h (by omega) (2 ^ k)
  exact inUp_iff.2 (by unfold vaF; omega)
def frF (f : Nat → Int) (g q : Nat) : Int := if q < g then f q else 0
set_option maxRecDepth 8000 in
set_option maxHeartbeats 16000000 in
theorem begin_any (Av : Option Addr) (v : List Int) (cv n : Nat) (pv : Pv v n) (hup : upB 1000 v = true) (w : World) (hrv : Rd w w.heap.size Av (ints v)) :
    Calls Try.prog 99 #[.slice Av v.length cv] w fun e w' => ∃ ps, e = .returned (.pointer (some ⟨ps, 0, none⟩)) ∧ w.heap.size ≤ ps ∧ Nonempty (StP w' w.heap.size ps n v.length 1 alF inF (excF v 1 (rowF (vaF v) n))) ∧ Below w.heap.size w w' := by
  have h32 := pv.le
  have hn1 := pv.one
  have hn5 := pv.five
  have HPl := Lib.hid (fun w => players_any Av v.length cv (by omega) w)
  rw [pv.plZ] at HPl
  have HLn := Lib.hid pv.len
  have HUp := Lib.hid hup
  obtain ⟨W1, hW1, k1, s1, b1⟩ := one_blk w #[.int .i64 1, .slice none 0 0, .slice none 0 0, .slice none 0 0] 82
  obtain ⟨W2, hW2, k2, s2, b2⟩ := one_blk W1 #[.int .i64 1, .slice none 0 0] 44
  have HW1 := Lib.hid hW1
  have HW2 := Lib.hid hW2
  obtain ⟨ps, hps⟩ : ∃ ps, w.heap.size = ps := ⟨_, rfl⟩
  have HPs := Lib.hid hps
  have hz1 : W1.heap.size = ps + 1 := by rw [← hW1]; simp [hps]
  have hz2 : W2.heap.size = ps + 1 + 1 := by rw [← hW2]; simp [hz1]
  have HBg := Lib.hid (show Bg W2 (ps + 1 + 1) ps (ps + 1) v.length v (.slice none 0 0) (.slice none 0 0) (.slice none 0 0) (fun _ => 0) 0 0 0 from
    { hs := (b2.block ps (by omega)).trans (by rw [← hps]; exact k1)
      hb := by rw [← hz1]; exact k2
      oc := World.ownsRow_nil _ _ _ _
      op := World.ownsRow_nil _ _ _ _
      on := World.ownsRow_nil _ _ _ _
      rw := fun k hk => by omega
      cn := fun b hb => by cases hb
      cp := fun b hb => by cases hb
      pn := fun b hb => by cases hb
      sB := by omega
      bB := by omega
      sb := by omega })
  have HB2 := Lib.hid (show Below ps w W2 by rw [← hps]; exact b1.trans (b2.mono b1.size))
  have HRv := Lib.hid hrv
  rw [hps] at HRv
  obtain ⟨L, hL⟩ : ∃ L, v.length = L := ⟨_, rfl⟩
  have HL := Lib.hid hL
  have HL2 := Lib.hid (show L = 2 ^ n by rw [← hL]; exact pv.len)
  rw [hL] at HPl HBg h32 ⊢
  have HZ1 := Lib.hid hz1
  obtain ⟨i0, hi0, hz0, hzs, hzb⟩ := info_parts eInt0.hi
  clear hW1 hW2 k1 k2 s1 s2 b1 b2 hps pv hup hrv hL hz1 hz2
  go_enter Try.func99, Try.ntmps99
  go_wp2_with fail
  rw [HW1.out, HW2.out, HPs.out]
  refine (HPl.out W2).mono ?_
  rintro e w' ⟨rfl, rfl⟩
  go_wp2_with fail
  go_loopw [13] (fun z wr => ∃ p : Nat, p ≤ n ∧ z = .int .i64 (p : Int) ∧ (∃ vc vp vn G, Bg wr (ps + 1 + 1) ps (ps + 1) L v vc vp vn G p p p) ∧ Below ps w wr) (fun z _ => n - (intOf z).toNat)
  case atStart => exact ⟨0, by omega, rfl, ⟨_, _, _, _, HBg.out⟩, HB2.out⟩
  case round =>
    obtain ⟨p, hp, rfl, ⟨vc, vp, vn, G, hbg⟩, hbl⟩ := hrel
    have BG := Lib.hid hbg
    have BL := Lib.hid hbl
    clear hbg hbl
    by_cases hlt : p < n
    · have b0 : (0 : Int) ≤ (p : Int) := by omega
      have b1 : (p : Int) < (n : Int) := by omega
      obtain ⟨wo, rfl⟩ : ∃ wo : World, wo = wr := ⟨_, rfl⟩
      obtain ⟨s, hs⟩ : ∃ s, wo.heap.size = s := ⟨_, rfl⟩
      have HS := Lib.hid hs
      have hpss : ps < s := by rw [← hs]; exact lt_of_block' BG.out.hs
      have hpbs : ps + 1 < s := by rw [← hs]; exact lt_of_block' BG.out.hb
      clear hs
      go_wp2_with ((at_make; refine wpList_make_full _ rfl (.tmp 17) (.tmp 17) 22 rfl wo.heap.size 3 i0 (.int .i64 0) 1 Try.underlying22 hi0 hz0 hzs .i64 .i64 _ _ L rfl rfl rfl rfl (by rw [hzb]; omega) (by simp only [maxLen]; omega) (Nat.le_refl _) ?_; intro w3 hown hgr; have MD := Lib.hid (made_rowF hown hgr); clear hown hgr))
      rw [HS.out] at MD ⊢
      go_loopw [21] (fun z wr => ∃ g : Nat, g ≤ L ∧ z = .int .i64 (g : Int) ∧ RowB wr s L (frF (inF p) g) ∧ Below s wo wr) (fun z _ => L - (intOf z).toNat)
      case atStart => exact ⟨0, by omega, rfl, by have := MD.out.2; unfold RowB; rw [this]; exact congrArg (fun x => some (Obj.cells (ints x).toArray 3 (0, 0))) (rowF_congr fun q _ => (if_neg (by omega)).symm), MD.out.1⟩
      case round =>
        obtain ⟨g, hg, rfl, hrow, hb⟩ := hrel
        unfold RowB at hrow
        by_cases hlt2 : g < L
        · have c0 : (0 : Int) ≤ (g : Int) := by omega
          have c1 : (g : Int) < (L : Int) := by omega
          have HIs := Lib.hid (isIn_any p g (by omega) (by omega) wr)
          have hcell : wr.cell? ⟨s, g, none⟩ = some (.int .i64 (frF (inF p) g g)) := (blk_cell hrow).trans (rowF_at hlt2)
          have hfr := blk_free hrow g
          have HB3 := Lib.hid hb
          cases ht : g.testBit p
          · have HN := Lib.hid (show RowB wr s L (frF (inF p) (g + 1)) by
              unfold RowB
              rw [hrow, rowF_congr (F := frF (inF p) g) (G := frF (inF p) (g + 1)) fun q _ => by
                unfold frF
                by_cases e : q < g
                · rw [if_pos e, if_pos (by omega)]
                · rw [if_neg e]
                  by_cases e2 : q = g
                  · rw [if_pos (by omega), e2]
                    unfold inF
                    rw [if_neg (by rw [ht]; simp)]
                  · rw [if_neg (by omega)]])
            rw [ht] at HIs
            clear hrow hb ht hcell hfr
            go_wp2_with fail
            refine HIs.out.mono ?_
            rintro e w4 ⟨rfl, rfl⟩
            go_wp2_with fail
            go_roundw
            case rel => exact ⟨g + 1, by omega, by go_num, HN.out, HB3.out⟩
            case measure => simp [intOf]; omega
          · have HN := Lib.hid (show RowB (wr.setCell ⟨s, g, none⟩ (.int .i64 1)) s L (frF (inF p) (g + 1)) by
              unfold RowB
              rw [blk_set hrow g _, rowF_set (G := frF (inF p) (g + 1)) (by unfold frF inF; rw [if_pos (Nat.lt_succ_self g), if_pos ht]) (fun q hq => by unfold frF; split <;> split <;> first | rfl | omega)])
            have HB4 := Lib.hid (hb.setCell (p := ⟨s, g, none⟩) (Nat.le_refl _) (.int .i64 1))
            rw [ht] at HIs
            clear hrow hb ht
            go_wp2_with fail
            refine HIs.out.mono ?_
            rintro e w4 ⟨rfl, rfl⟩
            go_wp2_with fail
            go_roundw
            case rel => exact ⟨g + 1, by omega, by go_num, HN.out, HB4.out⟩
            case measure => simp [intOf]; omega
        · have hgL : g = L := by omega
          have HRow := Lib.hid (show RowB wr s L (inF p) by
            unfold RowB
            rw [hrow, rowF_congr (F := frF (inF p) g) (G := inF p) fun q hq => if_pos (by omega)])
          have BG5 := Lib.hid (BG.out.up (by rw [HS.out]; exact hb))
          have BL5 := Lib.hid (BL.out.trans (hb.mono (Nat.le_of_lt hpss)))
          have hsw : s < wr.heap.size := lt_of_block' hrow
          have HD := Lib.hid (show vc.ownBlock ≠ some s ∧ vp.ownBlock ≠ some s ∧ vn.ownBlock ≠ some s from ⟨fun e => by have := (BG.out.oc.lt _ e).2; rw [HS.out] at this; omega, fun e => by have := (BG.out.op.lt _ e).2; rw [HS.out] at this; omega, fun e => by have := (BG.out.on.lt _ e).2; rw [HS.out] at this; omega⟩)
          subst hgL
          clear hrow hb hlt2
          obtain ⟨wi, rfl⟩ : ∃ wi : World, wi = wr := ⟨_, rfl⟩
          have m2 : wi.cell? ⟨ps, 2, none⟩ = some vp := blk_cell BG5.out.hs
          have HWa := Lib.hid ((Below.refl wi.heap.size wi).alloc (Nat.le_refl _) (.cells #[.slice (some ⟨s, 0, none⟩) g g] 22))
          have hpw : ps < wi.heap.size := lt_of_block' BG5.out.hs
          have hpbw : ps + 1 + 1 ≤ wi.heap.size := by have : ps + 1 < wi.heap.size := lt_of_block' BG5.out.hb; omega
          go_wp2_with ((with_reducible show wpList _ _ _ (⟨some 38, _, _, _, _, _⟩ :: _) _ _); refine app eRow0 rfl (.tmp 35) (.tmp 37) rfl rfl (w0 := wi) (own_below BG5.out.op HWa.out) (HWa.out.mono hpbw) (by have := HWa.out.size; omega) rfl (Rd.one wi (.slice (some ⟨s, 0, none⟩) g g) 22 (Nat.lt_succ_self _)) (by simp) (by simp [Value.oneCell']) (p + 1) rfl (by omega) ?_; intro A7 c7 w7 o7 b7 g7 h7; have HB7 := Lib.hid b7; have X7 := (b7.block ps (by omega)).trans BG5.out.hs; have x7 := blk_cell (j := 2) X7; have f7 := blk_free X7 2; have NB := Lib.hid (Bg.addP BG5.out HWa.out g7 o7 h7 HRow.out (by omega) HD.out.1 HD.out.2.1 HD.out.2.2); clear o7 b7 g7 h7 X7)
          have HB7p := Lib.hid (((BL5.out.trans (HB7.out.mono (by omega))).setCell (p := ⟨ps, 2, none⟩) (Nat.le_refl _) (.slice A7 (p + 1) c7)))
          obtain ⟨wA, hwA⟩ : ∃ wA, w7.setCell ⟨ps, 2, none⟩ (.slice A7 (p + 1) c7) = wA := ⟨_, rfl⟩
          rw [hwA] at NB HB7p ⊢
          clear hwA x7 f7 m2
          have hpwA : ps < wA.heap.size := lt_of_block' NB.out.hs
          have hpbA : ps + 1 + 1 ≤ wA.heap.size := by have : ps + 1 < wA.heap.size := lt_of_block' NB.out.hb; omega
          have HAl := Lib.hid (alone_any p (by omega))
          have HAF := Lib.hid (show alF p = ((2 ^ p : Nat) : Int) from rfl)
          have HVF := Lib.hid (show vaF v p = nth v (2 ^ p) from rfl)
          have HPo := Lib.hid (show 2 ^ p < g by rw [HL2.out]; exact Nat.pow_lt_pow_right (by omega) hlt)
          generalize (2 ^ p : Nat) = y at *
          obtain ⟨b2, o2, hA2, hb2, hc2⟩ := HRv.out.at_ (ints_at (get_nth (l := v) (i := y) (by rw [HL.out]; exact HPo.out)))
          have HCv := Lib.hid hc2
          have HB2v := Lib.hid hb2
          have HPo' := HPo.out
          have y0 : (0 : Int) ≤ (y : Int) := by omega
          have y1 : (y : Int) < (g : Int) := by omega
          subst hA2
          clear hc2 hb2
          have m1 : wA.cell? ⟨ps, 1, none⟩ = some vc := blk_cell NB.out.hs
          have m1a := cell_up (w := wA) (o := .cells #[.int .i64 (y : Int)] 3) m1
          have m1b := cell_up (w := wA.drew) (o := .cells #[.int .i64 (y : Int)] 3) (show wA.drew.cell? ⟨ps, 1, none⟩ = some vc from m1)
          have HWb := Lib.hid (show Below wA.heap.size wA (wA.alloc (.cells #[.int .i64 (y : Int)] 3)).drew from ((Below.refl wA.heap.size wA).alloc (Nat.le_refl _) _).drew)
          have HWc := Lib.hid (show Below wA.heap.size wA (wA.drew.alloc (.cells #[.int .i64 (y : Int)] 3)) from ((Below.refl wA.heap.size wA).drew.alloc (Nat.le_refl _) _))
          have OCb := Lib.hid (own_below NB.out.oc HWb.out)
          have OCc := Lib.hid (own_below NB.out.oc HWc.out)
          go_wp2_with fail
          go_region_law (first
            | (go_simp; go_at_call 54; refine (HAl.out _).mono ?_; rintro e w9 ⟨rfl, rfl⟩)
            | ((refine step_app eInt0 rfl (.tmp 45) (.tmp 48) rfl rfl (w0 := wA) OCb.out (HWb.out.mono hpbA) (Nat.le_trans hpbA HWb.out.size) rfl (rd_drew (Rd.one wA (.int .i64 (y : Int)) 3 (Nat.lt_succ_self _))) (by simp) (by simp [Value.oneCell']) (p + 1) rfl (by omega) ?_); intro A8 c8 w8 o8 b8 g8 h8; have HB8 := Lib.hid b8; have X8 := (b8.block ps (by omega)).trans NB.out.hs; have x8 := blk_cell (j := 1) X8; have f8 := blk_free X8 1; have NC := Lib.hid (Bg.addC NB.out HWb.out g8 (by rw [HAF.out]; exact o8) h8); clear o8 b8 g8 h8 X8)
            | ((refine step_app eInt0 rfl (.tmp 45) (.tmp 48) rfl rfl (w0 := wA) OCc.out (HWc.out.mono hpbA) (Nat.le_trans hpbA HWc.out.size) rfl (Rd.one wA.drew (.int .i64 (y : Int)) 3 (Nat.lt_succ_self _)) (by simp) (by simp [Value.oneCell']) (p + 1) rfl (by omega) ?_); intro A8 c8 w8 o8 b8 g8 h8; have HB8 := Lib.hid b8; have X8 := (b8.block ps (by omega)).trans NB.out.hs; have x8 := blk_cell (j := 1) X8; have f8 := blk_free X8 1; have NC := Lib.hid (Bg.addC NB.out HWc.out g8 (by rw [HAF.out]; exact o8) h8); clear o8 b8 g8 h8 X8))
          all_goals (
            have HB8p := Lib.hid (((HB7p.out.trans (HB8.out.mono (by omega))).setCell (p := ⟨ps, 1, none⟩) (Nat.le_refl _) (.slice A8 (p + 1) c8)))
            clear x8 f8 m1 m1a m1b HB8 HWb HWc OCb OCc
            go_wp2_with fail
            obtain ⟨wB, hwB⟩ : ∃ wB, w8.setCell ⟨ps, 1, none⟩ (.slice A8 (p + 1) c8) = wB := ⟨_, rfl⟩
            rw [hwB] at NC HB8p ⊢
            clear hwB
            have hpbB : ps + 1 + 1 ≤ wB.heap.size := by have : ps + 1 < wB.heap.size := lt_of_block' NC.out.hb; omega
            have n1 : wB.cell? ⟨ps + 1, 1, none⟩ = some vn := blk_cell NC.out.hb
            have n2 : wB.cell? ⟨b2, o2 + y, none⟩ = some (.int .i64 (nth v y)) := (HB8p.out.cell (p := ⟨b2, o2 + y, none⟩) HB2v.out).trans HCv.out
            have n1a := cell_up (w := wB) (o := .cells #[.int .i64 (nth v y)] 3) n1
            have n1b := cell_up (w := wB.drew) (o := .cells #[.int .i64 (nth v y)] 3) (show wB.drew.cell? ⟨ps + 1, 1, none⟩ = some vn from n1)
            have HWd := Lib.hid (show Below wB.heap.size wB (wB.alloc (.cells #[.int .i64 (nth v y)] 3)).drew from ((Below.refl wB.heap.size wB).alloc (Nat.le_refl _) _).drew)
            have HWe := Lib.hid (show Below wB.heap.size wB (wB.drew.alloc (.cells #[.int .i64 (nth v y)] 3)) from ((Below.refl wB.heap.size wB).drew.alloc (Nat.le_refl _) _))
            have OCd := Lib.hid (own_below NC.out.on HWd.out)
            have OCe := Lib.hid (own_below NC.out.on HWe.out)
            generalize nth v y = d at *
            go_region_law (first
              | (go_simp; go_at_call 54; refine (HAl.out _).mono ?_; rintro e w9 ⟨rfl, rfl⟩)
              | ((refine step_app eInt0 rfl (.tmp 53) (.tmp 59) rfl rfl (w0 := wB) OCd.out (HWd.out.mono hpbB) (Nat.le_trans hpbB HWd.out.size) rfl (rd_drew (Rd.one wB (.int .i64 d) 3 (Nat.lt_succ_self _))) (by simp) (by simp [Value.oneCell']) (p + 1) rfl (by omega) ?_); intro A9 c9 w10 o9 b9 g9 h9; have HB9 := Lib.hid b9; have X9 := (b9.block (ps + 1) (by omega)).trans NC.out.hb; have x9 := blk_cell (j := 1) X9; have f9 := blk_free X9 1; have ND := Lib.hid (Bg.addN NC.out HWd.out g9 (by rw [HVF.out]; exact o9) h9); clear o9 b9 g9 h9 X9)
              | ((refine step_app eInt0 rfl (.tmp 53) (.tmp 59) rfl rfl (w0 := wB) OCe.out (HWe.out.mono hpbB) (Nat.le_trans hpbB HWe.out.size) rfl (Rd.one wB.drew (.int .i64 d) 3 (Nat.lt_succ_self _)) (by simp) (by simp [Value.oneCell']) (p + 1) rfl (by omega) ?_); intro A9 c9 w10 o9 b9 g9 h9; have HB9 := Lib.hid b9; have X9 := (b9.block (ps + 1) (by omega)).trans NC.out.hb; have x9 := blk_cell (j := 1) X9; have f9 := blk_free X9 1; have ND := Lib.hid (Bg.addN NC.out HWe.out g9 (by rw [HVF.out]; exact o9) h9); clear o9 b9 g9 h9 X9))
            all_goals (
              have HB9p := Lib.hid (((HB8p.out.trans (HB9.out.mono (by omega))).setCell (p := ⟨ps + 1, 1, none⟩) (Nat.le_succ _) (.slice A9 (p + 1) c9)))
              clear x9 f9 n1 n1a n1b n2 HB9 HWd HWe OCd OCe
              go_wp2_with fail
              go_roundw
              (case rel => exact ⟨p + 1, by omega, by go_num, ⟨_, _, _, _, ND.out⟩, HB9p.out⟩)
              (case measure => simp [intOf]; omega)))
    · have hpn : p = n := by omega
      subst hpn
      obtain ⟨An, cn, hvn, _⟩ := own_form BG.out.on
      subst hvn
      have HRn := Lib.hid (Rd.of_own BG.out.on)
      have HEx := Lib.hid (excesses_any Av v cv 1 An (rowF (vaF v) p) cn (by rw [HL.out]; exact h32) HUp.out (by rw [rowF_len]; exact hn5) (va_up HUp.out p) (by omega) (by omega) wr ((HRv.out.below BL.out (Nat.le_refl _)).more (Nat.le_of_lt (lt_of_block' BG.out.hs))) HRn.out)
      rw [HL.out, rowF_len] at HEx
      have m0 : wr.cell? ⟨ps + 1, 0, none⟩ = some (.int .i64 1) := blk_cell BG.out.hb
      have m1 : wr.cell? ⟨ps + 1, 1, none⟩ = some (.slice An p cn) := blk_cell BG.out.hb
      have hps := lt_of_block' BG.out.hs
      clear hlt
      go_wp2_with fail
      refine HEx.out.mono ?_
      rintro e w2 ⟨gg, rfl, hgs, hg2, hb2⟩
      have X1 := (hb2.block ps hps).trans BG.out.hs
      have x3 := blk_cell (j := 3) X1
      have f3 := blk_free X1 3
      have HF := Lib.hid (Bg.made (B' := ps) (c := L) BG.out (by omega) hb2 hgs hg2 (Nat.le_refl _) (by omega))
      have HBz := Lib.hid ((BL.out.trans (hb2.mono (Nat.le_of_lt hps))).setCell (p := ⟨ps, 3, none⟩) (Nat.le_refl _) (.slice (some ⟨gg, 0, none⟩) L L))
      clear X1 hb2 hg2 hgs
      go_wp2_with fail
      go_ret
      exact ⟨ps, rfl, by rw [HPs.out]; exact Nat.le_refl _, by rw [HPs.out]; exact HF.out, by rw [HPs.out]; exact HBz.out⟩
end Go.Proofs.Ytfmhanpibgmgfaa

/-
  The purse of dividends in the reference: the walk of FromDividends. Conditions: the list can be read.
-/
import Derived.Test.YtfmhanpibgmgfaaPd4
namespace Go.Proofs.Ytfmhanpibgmgfaa
open Go.RowKit
set_option linter.unusedVariables false

theorem fg_r (v : List Int) (m : Int) : fgB v m = if rpl v.length < 0 then false else if upB m v = true then decide (nth v 0 = 0) else false := by
  by_cases h : v.length = 2 ∨ v.length = 4 ∨ v.length = 8 ∨ v.length = 16 ∨ v.length = 32
  · have h1 : ¬ rpl v.length < 0 := by unfold rpl; rw [if_pos h]; omega
    have h2 : (decide (v.length = 2) || decide (v.length = 4) || decide (v.length = 8) || decide (v.length = 16) || decide (v.length = 32)) = true := by
      rcases h with h | h | h | h | h <;> rw [h] <;> rfl
    rw [if_neg h1]
    unfold fgB
    rw [h2, Bool.true_and]
    cases upB m v
    · simp
    · by_cases h3 : nth v 0 = 0
      · simp [h3]
      · simp [h3]
  · have h1 : rpl v.length < 0 := by unfold rpl; rw [if_neg h]; omega
    rw [if_pos h1, fg_no h]
theorem fd_bad {v : List Int} (h : fgB v 1000000 = false) : fdE v = 1 ∧ fdLen v = 0 ∧ fdL v = [] := by
  have k0 : fdE v = 1 := by unfold fdE; rw [h]; rfl
  exact ⟨k0, by unfold fdLen; rw [k0]; rfl, by unfold fdL; rw [k0]; rfl⟩
set_option maxRecDepth 8000 in
set_option maxHeartbeats 4000000 in
theorem rFromDividends_any (Av : Option Addr) (v : List Int) (cv : Nat) (hl : v.length ≤ 9223372036854775807) (w : World) (hr : Rd w w.heap.size Av (ints v)) :
    Calls Try.prog 32 #[.slice Av v.length cv] w fun e w' => ∃ A' c', e = .returned (.tuple #[.slice A' (fdLen v) c', .int .i64 (fdE v)]) ∧ Rd w' w'.heap.size A' (ints (fdL v)) ∧ Below w.heap.size w w' := by
  have HP := Lib.hid (rplayers_any v.length w)
  have HLi := Lib.hid (limited_any Av v cv 1000000 (by omega) (by omega) hl w hr)
  have HX := Lib.hid (fg_r v 1000000)
  by_cases h1 : rpl v.length < 0
  · have e1 : decide (rpl v.length < 0) = true := decide_eq_true h1
    have hB := fd_bad (show fgB v 1000000 = false by rw [HX.out, if_pos h1])
    rw [hB.1, hB.2.1, hB.2.2]
    generalize rpl v.length = r at *
    generalize v.length = m at *
    clear hr h1 HLi hB HX
    go_enter Try.func32, Try.ntmps32
    go_wp2_with fail
    refine HP.out.mono ?_
    rintro e w' ⟨rfl, rfl⟩
    go_wp2_with fail
    go_ret2
    exact ⟨none, 0, rfl, Rd.nil_, Below.refl _ _⟩
  · have e1 : decide (rpl v.length < 0) = false := decide_eq_false h1
    have hl0 : 0 < v.length := by
      rcases Nat.eq_zero_or_pos v.length with h | h
      · exact absurd (by rw [h]; decide) h1
      · exact h
    have HR := Lib.hid hr
    have HX2 := Lib.hid (show fgB v 1000000 = if upB 1000000 v = true then decide (nth v 0 = 0) else false by rw [HX.out, if_neg h1])
    obtain ⟨b, o, d, hAv, hd, hc⟩ := hr.int 0 hl0
    have HAv := Lib.hid hAv
    subst hAv
    rw [Nat.add_zero] at hc
    have HD := Lib.hid (nth_get hd.out)
    have b1 : (0 : Int) < (v.length : Int) := by omega
    rw [HD.out] at HX2
    clear HX
    generalize hrr : rpl v.length = r at *
    clear hr h1 hd
    cases hu : upB 1000000 v
    · have hB := fd_bad (show fgB v 1000000 = false by rw [HX2.out, hu]; rfl)
      rw [hB.1, hB.2.1, hB.2.2]
      rw [hu] at HLi
      generalize v.length = m at *
      clear hu hB HX2
      go_enter Try.func32, Try.ntmps32
      go_wp2_with fail
      refine HP.out.mono ?_
      rintro e w' ⟨rfl, rfl⟩
      go_wp2_with fail
      refine HLi.out.mono ?_
      rintro e w' ⟨rfl, rfl⟩
      go_wp2_with fail
      go_ret2
      exact ⟨none, 0, rfl, Rd.nil_, Below.refl _ _⟩
    · by_cases h0 : d = 0
      case neg =>
        have e2 : (d != 0) = true := by simpa using h0
        have hB := fd_bad (show fgB v 1000000 = false by rw [HX2.out, hu, if_pos rfl, decide_eq_false h0])
        rw [hB.1, hB.2.1, hB.2.2]
        rw [hu] at HLi
        generalize v.length = m at *
        clear hu hB HX2 h0
        go_enter Try.func32, Try.ntmps32
        go_wp2_with fail
        refine HP.out.mono ?_
        rintro e w' ⟨rfl, rfl⟩
        go_wp2_with fail
        refine HLi.out.mono ?_
        rintro e w' ⟨rfl, rfl⟩
        go_wp2_with fail
        go_ret2
        exact ⟨none, 0, rfl, Rd.nil_, Below.refl _ _⟩
      case pos =>
        have e2 : (d != 0) = false := by simpa using h0
        have hv : fgB v 1000000 = true := by rw [HX2.out, hu, if_pos rfl, decide_eq_true h0]
        obtain ⟨n, pv, hup⟩ := fgB_pv hv
        have k0 : fdE v = if upB 1000 (rowF (tfF (nth v) 1 n) v.length) = true then 0 else 3 := by unfold fdE fdG; rw [hv, pv.pl]; rfl
        have k1 : fdLen v = if upB 1000 (rowF (tfF (nth v) 1 n) v.length) = true then v.length else 0 := by
          unfold fdLen
          rw [k0]
          cases upB 1000 (rowF (tfF (nth v) 1 n) v.length) <;> rfl
        have k2 : fdL v = if upB 1000 (rowF (tfF (nth v) 1 n) v.length) = true then rowF (tfF (nth v) 1 n) v.length else [] := by
          unfold fdL fdG
          rw [k0, pv.pl]
          cases upB 1000 (rowF (tfF (nth v) 1 n) v.length) <;> rfl
        have K0 := Lib.hid k0
        have K1 := Lib.hid k1
        have K2 := Lib.hid k2
        have h32 := pv.le
        have HUp := Lib.hid hup
        have HDv := Lib.hid (fun h (hh : h < v.length) => zeta_sum (nth v) pv.five (by rw [← pv.len]; exact hh))
        have HM := Lib.hid (fun h k (hk : k ≤ 32) => ps_32 (f := nth v) (fun g => by have := upB_nth hup (by omega) g; omega) h k hk)
        have HPs := Lib.hid (fun h k => show psF (nth v) h (k + 1) = psF (nth v) h k + (if paB k h = true then nth v k else 0) from rfl)
        have HP0 := Lib.hid (fun h => show psF (nth v) h 0 = 0 from rfl)
        generalize fdE v = zE at *
        generalize fdLen v = zN at *
        generalize fdL v = zL at *
        generalize tfF (nth v) 1 n = F at *
        generalize psF (nth v) = ps at *
        obtain ⟨L, hL⟩ : ∃ L, v.length = L := ⟨_, rfl⟩
        have HL := Lib.hid hL
        rw [hL] at HP HLi h32 HDv K0 K1 K2 b1 ⊢
        rw [hu] at HLi
        have HTo := Lib.hid (fun A c w (h : Rd w w.heap.size A (ints (rowF F L))) => show Calls Try.prog 69 #[.slice A L c] w fun e w' => e = .returned (.tuple #[if upB 1000 (rowF F L) = true then .slice A L c else .slice none 0 0, .int .i64 (if upB 1000 (rowF F L) = true then 0 else 3)]) ∧ w = w' from by
          have := told_any A (rowF F L) c (by rw [rowF_len]; omega) w h
          rw [rowF_len] at this
          exact this)
        obtain ⟨i0, hi0, hz0, hz1, hz2⟩ := info_parts eInt0.hi
        obtain ⟨s, hs⟩ : ∃ s, w.heap.size = s := ⟨_, rfl⟩
        have HS := Lib.hid hs
        clear hv k0 k1 k2 pv hup hl hs hL hu h0 HX2 hrr hl0
        go_enter Try.func32, Try.ntmps32
        go_wp2_with fail
        refine HP.out.mono ?_
        rintro e w' ⟨rfl, rfl⟩
        go_wp2_with fail
        refine HLi.out.mono ?_
        rintro e w' ⟨rfl, rfl⟩
        go_wp2_with ((at_make; refine wpList_make_full _ rfl (.tmp 23) (.tmp 23) 22 rfl w.heap.size 3 i0 (.int .i64 0) 1 Try.underlying22 hi0 hz0 hz1 .i64 .i64 _ _ L rfl rfl rfl rfl (by rw [hz2]; omega) (by simp only [maxLen]; omega) (Nat.le_refl _) ?_; intro w3 hown hgr; have MD := Lib.hid (made_rowF hown hgr); clear hown hgr))
        clear hc
        rw [HS.out] at MD ⊢
        go_loopw [5] (fun z wr => ∃ h : Nat, h ≤ L ∧ z = .int .i64 (h : Int) ∧ wr.heap[s]? = some (.cells (ints (rowF (sofar F h) L)).toArray 3 (0, 0)) ∧ Below s w wr) (fun z _ => L - (intOf z).toNat)
        case atStart => exact ⟨0, by omega, rfl, by rw [MD.out.2]; rfl, MD.out.1⟩
        case round =>
          obtain ⟨h, hhL, rfl, hg, hbl⟩ := hrel
          by_cases hlt : h < L
          · have HDh := Lib.hid (HDv.out h hlt)
            have a0 : (0 : Int) ≤ (h : Int) := by omega
            have a1 : (h : Int) < (L : Int) := by omega
            have HN0 := Lib.hid (show wr.heap[s]? = some (.cells (ints (rowF (inS F h (ps h 0)) L)).toArray 3 (0, 0)) by rw [HP0.out, inS_0]; exact hg)
            have HB0 := Lib.hid hbl
            clear hg hbl
            go_wp2_with fail
            go_loopw [6] (fun z wr => ∃ g : Nat, g ≤ h + 1 ∧ z = .int .i64 (g : Int) ∧ wr.heap[s]? = some (.cells (ints (rowF (inS F h (ps h g)) L)).toArray 3 (0, 0)) ∧ Below s w wr) (fun z _ => h + 1 - (intOf z).toNat)
            case atStart => exact ⟨0, by omega, rfl, HN0.out, HB0.out⟩
            case round =>
              obtain ⟨g, hgh, rfl, hg, hbl⟩ := hrel
              by_cases hlt2 : g ≤ h
              · have HPt := Lib.hid (part_any g h (by omega) (by omega) wr)
                obtain ⟨b', o', x, hA1, hx, cx⟩ := (HR.out.below hbl (by rw [HS.out]; exact Nat.le_refl _)).int g (by rw [HL.out]; omega)
                cases hA1
                have hp0 := HM.out h g (by omega)
                have hps := HPs.out h g
                have hfg := upB_nth HUp.out (by omega) g
                rw [nth_get hx.out] at hps hfg
                have b0 : (0 : Int) ≤ (g : Int) := by omega
                have b1 : (g : Int) ≤ (h : Int) := by omega
                have b2 : (g : Int) < (L : Int) := by omega
                have c1 : wr.cell? ⟨s, h, none⟩ = some (.int .i64 (ps h g)) := by
                  have := (blk_cell hg).trans (rowF_at (F := inS F h (ps h g)) hlt)
                  rw [inS_at] at this
                  exact this
                have f0 := blk_free hg h
                have HBL := Lib.hid hbl
                cases hpa : paB g h
                · rw [hpa] at hps HPt
                  have hz : ps h (g + 1) = ps h g := by rw [hps]; simp
                  have HN := Lib.hid (show wr.heap[s]? = some (.cells (ints (rowF (inS F h (ps h (g + 1))) L)).toArray 3 (0, 0)) by rw [hz]; exact hg)
                  clear hg hbl hps hz hp0 hfg hpa hx
                  go_wp2_with fail
                  refine HPt.out.mono ?_
                  rintro e w4 ⟨rfl, rfl⟩
                  go_wp2_with fail
                  go_roundw
                  case rel => exact ⟨g + 1, by omega, by go_num, HN.out, HBL.out⟩
                  case measure => simp [intOf]; omega
                · rw [hpa] at hps HPt
                  have hz : ps h (g + 1) = ps h g + x := by rw [hps, if_pos rfl]
                  have q1 : IntKind.i64.wrap (ps h g + x) = ps h g + x := wrapI_mid (by unfold Mid; omega)
                  have HN := Lib.hid (show (wr.setCell ⟨s, h, none⟩ (.int .i64 (ps h g + x))).drew.heap[s]? = some (.cells (ints (rowF (inS F h (ps h (g + 1))) L)).toArray 3 (0, 0)) by
                    show (wr.setCell ⟨s, h, none⟩ (.int .i64 (ps h g + x))).heap[s]? = _
                    rw [blk_set hg h _, rowF_set (G := inS F h (ps h (g + 1))) (by rw [inS_at, hz]) (fun j hj => inS_ne hj)])
                  have HB2 := Lib.hid ((hbl.setCell (p := ⟨s, h, none⟩) (Nat.le_refl _) (.int .i64 (ps h g + x))).drew)
                  clear hg hbl hps hz hp0 hfg hpa hx
                  generalize ps h g = y at *
                  go_wp2_with fail
                  refine HPt.out.mono ?_
                  rintro e w4 ⟨rfl, rfl⟩
                  go_wp2_with fail
                  go_region
                  go_wp2_with fail
                  go_roundw
                  case rel => exact ⟨g + 1, by omega, by go_num, HN.out, HB2.out⟩
                  case measure => simp [intOf]; omega
              · have hgh2 : g = h + 1 := by omega
                subst hgh2
                have b1 : ¬ (((h + 1 : Nat) : Int) ≤ (h : Int)) := by omega
                have HN := Lib.hid (show wr.heap[s]? = some (.cells (ints (rowF (sofar F (h + 1)) L)).toArray 3 (0, 0)) by rw [← inS_up HDh.out.symm]; exact hg)
                have HBL := Lib.hid hbl
                clear hg hbl hlt2
                go_wp2_with fail
                go_roundw
                case rel => exact ⟨h + 1, by omega, by go_num, HN.out, HBL.out⟩
                case measure => simp [intOf]; omega
          · have hgl : h = L := by omega
            subst hgl
            have HN := Lib.hid (show wr.heap[s]? = some (.cells (ints (rowF F h)).toArray 3 (0, 0)) by rw [hg, rowF_congr (F := sofar F h) (G := F) (fun p hp => if_pos hp)])
            have HBL := Lib.hid hbl
            have HF := Lib.hid (show Rd wr wr.heap.size (some ⟨s, 0, none⟩) (ints (rowF F h)) from RowC.rd ⟨_, HN.out, fun k hk => rowF_at hk⟩)
            have HT := Lib.hid (HTo.out (some ⟨s, 0, none⟩) h wr HF.out)
            generalize upB 1000 (rowF F h) = bb at *
            clear hg hbl hlt
            go_wp2_with fail
            refine HT.out.mono ?_
            rintro e w5 ⟨rfl, rfl⟩
            cases bb
            · have k1 : zE = 3 := K0.out
              have k2 : zN = 0 := K1.out
              have k3 : zL = [] := K2.out
              subst k1 k2 k3
              go_wp2_with fail
              go_ret2
              exact ⟨none, 0, rfl, Rd.nil_, by rw [HS.out]; exact HBL.out⟩
            · have k1 : zE = 0 := K0.out
              have k2 : zN = h := K1.out
              have k3 : zL = rowF F h := K2.out
              subst k1 k2 k3
              go_wp2_with fail
              go_ret2
              exact ⟨some ⟨s, 0, none⟩, _, rfl, HF.out, by rw [HS.out]; exact HBL.out⟩
end Go.Proofs.Ytfmhanpibgmgfaa

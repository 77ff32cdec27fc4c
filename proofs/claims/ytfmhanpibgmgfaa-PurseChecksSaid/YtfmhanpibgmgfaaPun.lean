/-
  The reference's pays: the walks of paid, gets, CheckCore. Conditions: the lists can be read.
-/
import Derived.Test.YtfmhanpibgmgfaaPum
namespace Go.Proofs.Ytfmhanpibgmgfaa
open Go.RowKit
set_option linter.unusedVariables false

set_option maxRecDepth 8000 in
set_option maxHeartbeats 4000000 in
theorem paid_any (Av : Option Addr) (v : List Int) (cv : Nat) (den : Int) (A : Option Addr) (p : List Int) (c : Nat) (hl : v.length ≤ 9223372036854775807) (hpl : p.length ≤ 9223372036854775807) (w : World) (hrv : Rd w w.heap.size Av (ints v)) (hr : Rd w w.heap.size A (ints p)) :
    Calls Try.prog 78 #[.slice Av v.length cv, .agg #[.int .i64 den, .slice A p.length c]] w fun e w' => e = .returned (.int .i64 (payE v den p)) ∧ Below w.heap.size w w' := by
  obtain ⟨W, hW, h0, h1, hs1, hb0⟩ := one_pt w (.int .i64 den) (.slice A p.length c) 44
  have HW := Lib.hid hW
  have HB := Lib.hid hb0
  have HV := Lib.hid (rValidate_any Av v cv hl W ((hrv.below hb0 (Nat.le_refl _)).more (Nat.le_of_lt hs1)))
  have HRp := Lib.hid ((hr.below hb0 (Nat.le_refl _)).more (Nat.le_of_lt hs1))
  have HPl := Lib.hid (fun w => rplayers_any v.length w)
  have HWi := Lib.hid (fun w => within_any den 1 1000 w)
  have HLi := Lib.hid (fun w h => limited_any A p c 10000000 (by omega) (by omega) hpl w h)
  have HRd := Lib.hid (fun n => show Rd (W.drewN n) (W.drewN n).heap.size A (ints p) from HRp.out)
  obtain ⟨b, hbz⟩ : ∃ b, w.heap.size = b := ⟨_, rfl⟩
  have HBz := Lib.hid hbz
  rw [hbz] at h0 h1 HB hs1
  by_cases hv : vdE v = 0
  case neg =>
    have HX := Lib.hid (show payE v den p = 1 by unfold payE; rw [if_neg hv, vd_bad v hv])
    rw [vd_bad v hv] at HV
    generalize v.length = L at *
    generalize p.length = np at *
    clear hv hb0 hrv hr hW h0 h1 HPl hbz
    go_enter Try.func78, Try.ntmps78
    go_wp2_with fail
    rw [HW.out]
    refine HV.out.mono ?_
    rintro e w1 ⟨rfl, rfl⟩
    go_wp2_with fail
    go_ret
    exact ⟨by rw [HX.out] <;> rfl, by rw [HBz.out]; exact HB.out⟩
  case pos =>
    obtain ⟨n, pv, hup⟩ := vdE_pv hv
    have HX := Lib.hid (show payE v den p = if payBad n den p = true then 1 else 0 by unfold payE; rw [if_pos hv, pv.pl])
    rw [hv] at HV
    rw [pv.rpl] at HPl
    have hn5 := pv.five
    generalize v.length = L at *
    obtain ⟨np, hnp⟩ : ∃ np, p.length = np := ⟨_, rfl⟩
    have HNp := Lib.hid hnp
    have HBad := Lib.hid (show payBad n den p = !((decide (1 ≤ den) && decide (den ≤ 1000)) && (decide (np = n) && upB 10000000 p)) by unfold payBad; rw [hnp]; simp only [Bool.and_assoc])
    rw [hnp] at hW HW HLi h1 hpl ⊢
    generalize hd : (decide (1 ≤ den) && decide (den ≤ 1000)) = db at *
    clear hv pv hup hb0 hrv hr hW hnp hbz hl hd
    cases db
    · have HZ := Lib.hid (show payE v den p = 1 by rw [HX.out, HBad.out]; rfl)
      go_enter Try.func78, Try.ntmps78
      go_wp2_with fail
      rw [HW.out, HBz.out]
      refine HV.out.mono ?_
      rintro e w1 ⟨rfl, rfl⟩
      go_wp2_with fail
      go_quiet ((first
        | (go_at_call 88; first | exact qs (HWi.out _) | exact qs0 (HWi.out _))
        | (go_at_call 52; first | exact qs (HPl.out _) | exact qs0 (HPl.out _))
        | (go_at_call 58; first | exact qs (HLi.out _ (HRd.out _)) | exact qs0 (HLi.out _ (HRd.out _)))))
      go_wp2_with fail
      go_ret
      exact ⟨by rw [HZ.out] <;> rfl, by rw [HBz.out]; exact bdN' HB.out _⟩
    · by_cases c3 : np = n
      · have e3 : ((np : Int) != (n : Int)) = false := by rw [c3]; simp
        have e3' : (np != n) = false := by rw [c3]; simp
        rw [decide_eq_true c3, Bool.true_and, Bool.true_and] at HBad
        cases hu : upB 10000000 p
        · have HZ := Lib.hid (show payE v den p = 1 by rw [HX.out, HBad.out, hu]; rfl)
          rw [hu] at HLi
          clear c3 hu
          go_enter Try.func78, Try.ntmps78
          go_wp2_with fail
          rw [HW.out, HBz.out]
          refine HV.out.mono ?_
          rintro e w1 ⟨rfl, rfl⟩
          go_wp2_with fail
          go_quiet ((first
            | (go_at_call 88; first | exact qs (HWi.out _) | exact qs0 (HWi.out _))
            | (go_at_call 52; first | exact qs (HPl.out _) | exact qs0 (HPl.out _))
            | (go_at_call 58; first | exact qs (HLi.out _ (HRd.out _)) | exact qs0 (HLi.out _ (HRd.out _)))))
          go_wp2_with fail
          go_ret
          exact ⟨by rw [HZ.out] <;> rfl, by rw [HBz.out]; exact bdN' HB.out _⟩
        · have HZ := Lib.hid (show payE v den p = 0 by rw [HX.out, HBad.out, hu]; rfl)
          rw [hu] at HLi
          clear c3 hu
          go_enter Try.func78, Try.ntmps78
          go_wp2_with fail
          rw [HW.out, HBz.out]
          refine HV.out.mono ?_
          rintro e w1 ⟨rfl, rfl⟩
          go_wp2_with fail
          go_quiet ((first
            | (go_at_call 88; first | exact qs (HWi.out _) | exact qs0 (HWi.out _))
            | (go_at_call 52; first | exact qs (HPl.out _) | exact qs0 (HPl.out _))
            | (go_at_call 58; first | exact qs (HLi.out _ (HRd.out _)) | exact qs0 (HLi.out _ (HRd.out _)))))
          go_wp2_with fail
          go_ret
          exact ⟨by rw [HZ.out] <;> rfl, by rw [HBz.out]; exact bdN' HB.out _⟩
      · have e3 : ((np : Int) != (n : Int)) = true := by rw [bne_iff_ne]; omega
        have e3' : (np != n) = true := by rw [bne_iff_ne]; exact c3
        have HZ := Lib.hid (show payE v den p = 1 by rw [HX.out, HBad.out, decide_eq_false c3]; rfl)
        clear c3
        go_enter Try.func78, Try.ntmps78
        go_wp2_with fail
        rw [HW.out, HBz.out]
        refine HV.out.mono ?_
        rintro e w1 ⟨rfl, rfl⟩
        go_wp2_with fail
        go_quiet ((first
          | (go_at_call 88; first | exact qs (HWi.out _) | exact qs0 (HWi.out _))
          | (go_at_call 52; first | exact qs (HPl.out _) | exact qs0 (HPl.out _))
          | (go_at_call 58; first | exact qs (HLi.out _ (HRd.out _)) | exact qs0 (HLi.out _ (HRd.out _)))))
        go_wp2_with fail
        go_ret
        exact ⟨by rw [HZ.out] <;> rfl, by rw [HBz.out]; exact bdN' HB.out _⟩
set_option maxRecDepth 8000 in
set_option maxHeartbeats 2000000 in
theorem gets_any (den : Int) (A : Option Addr) (p : List Int) (c g : Nat) (hg : g < 9223372036854775808) (hn : p.length ≤ 5) (hp : upB 10000000 p = true) (w : World) (hr : Rd w w.heap.size A (ints p)) :
    Calls Try.prog 79 #[.agg #[.int .i64 den, .slice A p.length c], .int .i64 (g : Int)] w fun e w' => e = .returned (.int .i64 (getsF (nth p) g p.length)) ∧ Below w.heap.size w w' := by
  obtain ⟨W, hW, h0, h1, hs1, hb0⟩ := one_pt w (.int .i64 den) (.slice A p.length c) 44
  have HW := Lib.hid hW
  have HB := Lib.hid hb0
  have HRp := Lib.hid ((hr.below hb0 (Nat.le_refl _)).more (Nat.le_of_lt hs1))
  obtain ⟨b, hbz⟩ : ∃ b, w.heap.size = b := ⟨_, rfl⟩
  have HBz := Lib.hid hbz
  rw [hbz] at h0 h1 HB
  have HP := Lib.hid hp
  obtain ⟨n, hnn⟩ : ∃ n, p.length = n := ⟨_, rfl⟩
  have HN := Lib.hid hnn
  rw [hnn] at h1 HW hn ⊢
  clear hW hs1 hb0 hr hbz hp hnn
  go_enter Try.func79, Try.ntmps79
  go_wp2_with fail
  rw [HW.out, HBz.out]
  go_loop [5, 6] (fun u z => ∃ k : Nat, k ≤ n ∧ u = .int .i64 (getsF (nth p) g k) ∧ z = .int .i64 (k : Int)) (fun _ z => n - (intOf z).toNat)
  case atStart => exact ⟨0, by omega, rfl, rfl⟩
  case round =>
    obtain ⟨k, hk, rfl, rfl⟩ := hrel
    by_cases hlt : k < n
    · obtain ⟨b2, o2, x, hA2, hx, hc⟩ := HRp.out.int k (by rw [HN.out]; exact hlt)
      subst hA2
      have HX := Lib.hid (nth_get hx.out)
      have HH := Lib.hid (has_any g k (by omega) hg W)
      have b0 : (0 : Int) ≤ (k : Int) := by omega
      have b1 : (k : Int) < (n : Int) := by omega
      have hgle := gets_le (g := g) HP.out (show k + 1 ≤ 40 by omega)
      clear hx
      cases ht : g.testBit k
      · have HG := Lib.hid (gets_out (p := nth p) ht)
        rw [ht] at HH
        clear ht hgle
        go_wp2_with fail
        refine HH.out.mono ?_
        rintro e w' ⟨rfl, rfl⟩
        go_wp2_with fail
        go_round
        case rel => exact ⟨k + 1, by omega, by rw [HG.out], by go_num⟩
        case measure => simp [intOf]; omega
      · have HG := Lib.hid (show getsF (nth p) g (k + 1) = getsF (nth p) g k + x by rw [gets_in ht, HX.out])
        rw [ht] at HH
        rw [HG.out] at hgle
        have HQ := Lib.hid (show wrap64 (getsF (nth p) g k + x) = getsF (nth p) g k + x from wrap_mid (by unfold Mid; omega))
        have hq := HQ.out
        clear ht hgle
        go_wp2_with fail
        refine HH.out.mono ?_
        rintro e w' ⟨rfl, rfl⟩
        go_wp2_with fail
        go_round
        case rel => exact ⟨k + 1, by omega, by rw [HG.out] <;> first | rfl | (rw [HQ.out] <;> rfl), by go_num⟩
        case measure => simp [intOf]; omega
    · have hkn : k = n := by omega
      subst hkn
      go_wp2_with fail
      go_ret
      exact ⟨rfl, by rw [HBz.out]; exact HB.out⟩
set_option maxRecDepth 8000 in
set_option maxHeartbeats 4000000 in
theorem rCheckCore_any (Av : Option Addr) (v : List Int) (cv : Nat) (den : Int) (A : Option Addr) (p : List Int) (c : Nat) (hl : v.length ≤ 9223372036854775807) (hpl : p.length ≤ 9223372036854775807) (w : World) (hrv : Rd w w.heap.size Av (ints v)) (hr : Rd w w.heap.size A (ints p)) :
    Calls Try.prog 46 #[.slice Av v.length cv, .agg #[.int .i64 den, .slice A p.length c]] w fun e w' => e = .returned (.int .i64 (ccE v den p)) ∧ Below w.heap.size w w' := by
  obtain ⟨W, hW, h0, h1, hs1, hb0⟩ := one_pt w (.int .i64 den) (.slice A p.length c) 44
  have HW := Lib.hid hW
  have HB := Lib.hid hb0
  have HRv := Lib.hid ((hrv.below hb0 (Nat.le_refl _)).more (Nat.le_of_lt hs1))
  have HRp := Lib.hid ((hr.below hb0 (Nat.le_refl _)).more (Nat.le_of_lt hs1))
  have HPa := Lib.hid (paid_any Av v cv den A p c hl hpl W HRv.out HRp.out)
  obtain ⟨b, hbz⟩ : ∃ b, w.heap.size = b := ⟨_, rfl⟩
  have HBz := Lib.hid hbz
  rw [hbz] at h0 h1 HB hs1
  have H0 := Lib.hid h0
  have H1 := Lib.hid h1
  by_cases hp : payE v den p = 0
  case neg =>
    have h7 := (payE_01 v den p).resolve_left hp
    have HX := Lib.hid (show ccE v den p = 1 by unfold ccE; rw [if_neg hp, h7])
    rw [h7] at HPa
    generalize v.length = L at *
    generalize p.length = np at *
    clear hp h7 hb0 hrv hr hW hbz
    go_enter Try.func46, Try.ntmps46
    go_wp2_with fail
    rw [HW.out, HBz.out]
    refine HPa.out.mono ?_
    rintro e w1 ⟨rfl, hb⟩
    have HB1 := Lib.hid (HB.out.trans (hb.mono (Nat.le_of_lt hs1)))
    clear hb
    go_wp2_with fail
    go_ret
    exact ⟨by rw [HX.out] <;> rfl, by rw [HBz.out]; exact HB1.out⟩
  case pos =>
    obtain ⟨n, pv, hup, hpn, hpu, hd1, hd2⟩ := payE_ok hp
    have h32 := pv.le
    have hL0 : 0 < v.length := by rw [pv.len]; exact Nat.two_pow_pos n
    have hn5 := pv.five
    have HG := Lib.hid (fun g (hg : g < 9223372036854775808) w h => gets_any den A p c g hg (by rw [hpn]; exact hn5) hpu w h)
    have HX := Lib.hid (show ccE v den p = if coreB (excF v den p) v.length = true then 0 else 7 from if_pos hp)
    have HUp := Lib.hid hup
    have HF := Lib.hid (fun g => show excF v den p g = den * nth v g - getsF (nth p) g p.length from rfl)
    rw [hp] at HPa
    obtain ⟨L, hL⟩ : ∃ L, v.length = L := ⟨_, rfl⟩
    have HL := Lib.hid hL
    rw [hL] at HPa HX h32 hL0 hl ⊢
    have HNo := Lib.hid (fun (h : ¬ (excF v den p (L - 1) = 0 ∧ ∀ g, g < L → excF v den p g ≤ 0)) => show ccE v den p = 7 by rw [HX.out, if_neg (fun h2 => h (coreB_iff.1 h2))])
    have HYes := Lib.hid (fun (h : excF v den p (L - 1) = 0 ∧ ∀ g, g < L → excF v den p g ≤ 0) => show ccE v den p = 0 by rw [HX.out, if_pos (coreB_iff.2 h)])
    have HGl := Lib.hid (fun g => gets_le (p := p) (g := g) hpu (show p.length ≤ 40 by omega))
    generalize excF v den p = F at *
    generalize getsF (nth p) = GG at *
    have HGG := Lib.hid (show ∀ g, F g = den * nth v g - GG g p.length from HF.out)
    obtain ⟨np, hnp⟩ : ∃ np, p.length = np := ⟨_, rfl⟩
    rw [hnp] at HW HPa h1 H1 HGG HGl HG hpl ⊢
    clear hp pv hup hpn hpu hb0 hrv hr hW hbz hL hnp HF HX
    go_enter Try.func46, Try.ntmps46
    go_wp2_with fail
    rw [HW.out, HBz.out]
    refine HPa.out.mono ?_
    rintro e w1 ⟨rfl, hb⟩
    have K0 := Lib.hid ((hb.cell (p := ⟨b, 0, none⟩) hs1).trans H0.out)
    have K1 := Lib.hid ((hb.cell (p := ⟨b, 1, none⟩) hs1).trans H1.out)
    have HB1 := Lib.hid (HB.out.trans (hb.mono (Nat.le_of_lt hs1)))
    have HB1s := Lib.hid (show b < w1.heap.size by have := hb.size; omega)
    have HRv1 := Lib.hid ((HRv.out.below hb (Nat.le_refl _)).more hb.size)
    have HRp1 := Lib.hid ((HRp.out.below hb (Nat.le_refl _)).more hb.size)
    clear hb h0 h1
    go_wp2_with fail
    go_loopw [6] (fun z wr => ∃ g : Nat, g ≤ L ∧ z = .int .i64 (g : Int) ∧ (∀ q, q < g → F q ≤ 0) ∧ Below w1.heap.size w1 wr) (fun z _ => L - (intOf z).toNat)
    case atStart => exact ⟨0, by omega, rfl, fun q hq => by omega, Below.refl _ _⟩
    case round =>
      obtain ⟨g, hg, rfl, hall, hb⟩ := hrel
      have HA := Lib.hid hall
      have BW := Lib.hid hb
      have k0 := (hb.cell (p := ⟨b, 0, none⟩) HB1s.out).trans K0.out
      have k1 := (hb.cell (p := ⟨b, 1, none⟩) HB1s.out).trans K1.out
      have g0 := fun d os => cell_regrown k0 d os
      have g1 := fun d os => cell_regrown k1 d os
      have HRpr := Lib.hid ((HRp1.out.below hb (Nat.le_refl _)).more hb.size)
      clear hall
      by_cases hlt : g < L
      · obtain ⟨b2, o2, d, hA2, hd, hc⟩ := (HRv1.out.below hb (Nat.le_refl _)).int g (by rw [HL.out]; exact hlt)
        subst hA2
        have g2 := fun d os => cell_regrown hc d os
        have hvb := upB_nth HUp.out (by omega) g
        have hFg := HGG.out g
        rw [nth_get hd.out] at hvb hFg
        have hdd := den_le hd1 hd2 hvb
        have HGw := Lib.hid (fun w h => HG.out g (by omega) w h)
        have b0 : (0 : Int) ≤ (g : Int) := by omega
        have b1 : (g : Int) < (L : Int) := by omega
        have q1 : IntKind.i64.wrap (den * d) = den * d := wrapI_mid (by unfold Mid; omega)
        have HFg := Lib.hid hFg
        generalize GG g np = x at *
        clear hd hb k0 k1 hc hvb hdd hFg
        by_cases hcmp : x < den * d
        · have e1 : decide (x < den * d) = true := decide_eq_true hcmp
          have HZ := Lib.hid (HNo.out (fun h => by have := h.2 g hlt; have := HFg.out; omega))
          clear hcmp
          go_wp2_with fail
          refine wp_region_quiet_below (by kernel_rfl) (by kernel_rfl) ?_
          repeat (go_big_quiet_step (with_reducible exact Calls.regrown_of (HGw.out _ (rd_grown HRpr.out _ _))))
          refine wpQuiet_nil ?_
          intro _ hw'
          obtain ⟨⟨dq, osq⟩, hw''⟩ := hw'
          subst hw''
          have HB6 := Lib.hid (HB1.out.trans ((BW.out.trans ((below_regrown wr dq osq).mono BW.out.size)).mono (Nat.le_of_lt HB1s.out)))
          go_wp2_with fail
          go_ret
          exact ⟨by rw [HZ.out] <;> rfl, by rw [HBz.out]; exact HB6.out⟩
        · have e1 : decide (x < den * d) = false := decide_eq_false hcmp
          have HZ := Lib.hid (fun q (hq : q < g + 1) => show F q ≤ 0 by
            by_cases e : q = g
            · rw [e, HFg.out]; omega
            · exact HA.out q (by omega))
          clear hcmp
          go_wp2_with fail
          refine wp_region_quiet_below (by kernel_rfl) (by kernel_rfl) ?_
          repeat (go_big_quiet_step (with_reducible exact Calls.regrown_of (HGw.out _ (rd_grown HRpr.out _ _))))
          refine wpQuiet_nil ?_
          intro _ hw'
          obtain ⟨⟨dq, osq⟩, hw''⟩ := hw'
          subst hw''
          have HB6 := Lib.hid (BW.out.trans ((below_regrown wr dq osq).mono BW.out.size))
          go_wp2_with fail
          go_roundw
          case rel => exact ⟨g + 1, by omega, by go_num, HZ.out, HB6.out⟩
          case measure => simp [intOf]; omega
      · have hgL : g = L := by omega
        subst hgL
        obtain ⟨b2, o2, d, hA2, hd, hc⟩ := (HRv1.out.below hb (Nat.le_refl _)).int (g - 1) (by rw [HL.out]; omega)
        subst hA2
        have hvb := upB_nth HUp.out (by omega) (g - 1)
        have hFg := HGG.out (g - 1)
        rw [nth_get hd.out] at hvb hFg
        have hdd := den_le hd1 hd2 hvb
        have HGw := Lib.hid (fun w h => HG.out (g - 1) (by omega) w h)
        obtain ⟨l1, hl1⟩ : ∃ l1, g - 1 = l1 := ⟨_, rfl⟩
        rw [hl1] at hc HGw hFg HNo HYes
        have hcast : ((g : Int) - 1) = (l1 : Int) := by omega
        rw [← hcast] at HGw
        have g2 := fun d os => cell_regrown hc d os
        have b0 : (0 : Int) ≤ (g : Int) - 1 := by omega
        have b1 : (g : Int) - 1 < (g : Int) := by omega
        have ht : ((g : Int) - 1).toNat = l1 := by omega
        have q1 : IntKind.i64.wrap (den * d) = den * d := wrapI_mid (by unfold Mid; omega)
        have q2 : IntKind.i64.wrap ((g : Int) - 1) = (g : Int) - 1 := wrapI_mid (by unfold Mid; omega)
        have HFg := Lib.hid hFg
        generalize GG l1 np = x at *
        clear hd hb k0 k1 hc hvb hdd hFg hl1 hcast hlt
        by_cases hcmp : x = den * d
        · have e1 : (x != den * d) = false := by rw [hcmp]; simp
          have HZ := Lib.hid (HYes.out ⟨by have := HFg.out; omega, HA.out⟩)
          clear hcmp
          go_wp2_with fail
          refine wp_region_quiet_below (by kernel_rfl) (by kernel_rfl) ?_
          repeat (go_big_quiet_step (with_reducible exact Calls.regrown_of (HGw.out _ (rd_grown HRpr.out _ _))))
          refine wpQuiet_nil ?_
          intro _ hw'
          obtain ⟨⟨dq, osq⟩, hw''⟩ := hw'
          subst hw''
          have HB6 := Lib.hid (HB1.out.trans ((BW.out.trans ((below_regrown wr dq osq).mono BW.out.size)).mono (Nat.le_of_lt HB1s.out)))
          go_wp2_with fail
          go_ret
          exact ⟨by rw [HZ.out] <;> rfl, by rw [HBz.out]; exact HB6.out⟩
        · have e1 : (x != den * d) = true := by rw [bne_iff_ne]; exact hcmp
          have HZ := Lib.hid (HNo.out (fun h => by have := h.1; have := HFg.out; omega))
          clear hcmp
          go_wp2_with fail
          refine wp_region_quiet_below (by kernel_rfl) (by kernel_rfl) ?_
          repeat (go_big_quiet_step (with_reducible exact Calls.regrown_of (HGw.out _ (rd_grown HRpr.out _ _))))
          refine wpQuiet_nil ?_
          intro _ hw'
          obtain ⟨⟨dq, osq⟩, hw''⟩ := hw'
          subst hw''
          have HB6 := Lib.hid (HB1.out.trans ((BW.out.trans ((below_regrown wr dq osq).mono BW.out.size)).mono (Nat.le_of_lt HB1s.out)))
          go_wp2_with fail
          go_ret
          exact ⟨by rw [HZ.out] <;> rfl, by rw [HBz.out]; exact HB6.out⟩
end Go.Proofs.Ytfmhanpibgmgfaa

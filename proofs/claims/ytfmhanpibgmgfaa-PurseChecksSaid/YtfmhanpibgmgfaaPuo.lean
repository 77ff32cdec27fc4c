/-
  The reference's greatest excess: the walk of Excess. Conditions: the lists can be read.
-/
import Derived.Test.YtfmhanpibgmgfaaPun
namespace Go.Proofs.Ytfmhanpibgmgfaa
open Go.RowKit
set_option linter.unusedVariables false

set_option maxRecDepth 8000 in
set_option maxHeartbeats 8000000 in
theorem rExcess_any (Av : Option Addr) (v : List Int) (cv : Nat) (den : Int) (A : Option Addr) (p : List Int) (c : Nat) (hl : v.length ≤ 9223372036854775807) (hpl : p.length ≤ 9223372036854775807) (w : World) (hrv : Rd w w.heap.size Av (ints v)) (hr : Rd w w.heap.size A (ints p)) :
    Calls Try.prog 45 #[.slice Av v.length cv, .agg #[.int .i64 den, .slice A p.length c]] w fun e w' => e = .returned (.tuple #[.int .i64 (exG v den p), .int .i64 (exN v den p), .int .i64 (exE v den p)]) ∧ Below w.heap.size w w' := by
  obtain ⟨W, hW, h0, h1, hs1, hb0⟩ := one_pt w (.int .i64 den) (.slice A p.length c) 44
  have HW := Lib.hid hW
  have HB := Lib.hid hb0
  have HRv := Lib.hid ((hrv.below hb0 (Nat.le_refl _)).more (Nat.le_of_lt hs1))
  have HRp := Lib.hid ((hr.below hb0 (Nat.le_refl _)).more (Nat.le_of_lt hs1))
  have HPa := Lib.hid (paid_any Av v cv den A p c hl hpl W HRv.out HRp.out)
  obtain ⟨b, hbz⟩ : ∃ b, w.heap.size = b := ⟨_, rfl⟩
  have HBz := Lib.hid hbz
  rw [hbz] at h0 h1 HB hs1
  have H0 := Lib.hid h0
  have H1 := Lib.hid h1
  by_cases hp : payE v den p = 0
  case neg =>
    have h7 := (payE_01 v den p).resolve_left hp
    have HX := Lib.hid (show exG v den p = 0 ∧ exN v den p = 0 ∧ exE v den p = 1 from ⟨if_neg (fun h => hp h.1), if_neg (fun h => hp h.1), by unfold exE; rw [if_neg hp, h7]⟩)
    rw [h7] at HPa
    rw [HX.out.1, HX.out.2.1, HX.out.2.2]
    generalize v.length = L at *
    generalize p.length = np at *
    clear hp h7 hb0 hrv hr hW hbz
    go_enter Try.func45, Try.ntmps45
    go_wp2_with fail
    rw [HW.out, HBz.out]
    refine HPa.out.mono ?_
    rintro e w1 ⟨rfl, hb⟩
    have HB1 := Lib.hid (HB.out.trans (hb.mono (Nat.le_of_lt hs1)))
    clear hb
    go_wp2_with fail
    go_ret3
    exact ⟨rfl, by rw [HBz.out]; exact HB1.out⟩
  case pos =>
    obtain ⟨n, pv, hup, hpn, hpu, hd1, hd2⟩ := payE_ok hp
    have h32 := pv.le
    have hL0 : 0 < v.length := by rw [pv.len]; exact Nat.two_pow_pos n
    have hn5 := pv.five
    rw [hp] at HPa
    by_cases h1n : n = 1
    · have HX := Lib.hid (show exG v den p = 0 ∧ exN v den p = 0 ∧ exE v den p = 4 from ⟨if_neg (fun h => h.2 (by rw [pv.pl]; exact h1n)), if_neg (fun h => h.2 (by rw [pv.pl]; exact h1n)), by unfold exE; rw [if_pos hp, pv.pl, if_pos h1n]⟩)
      rw [HX.out.1, HX.out.2.1, HX.out.2.2]
      have hl2 : v.length = 2 := by rw [pv.len, h1n]
      have e1 : ((v.length : Int) == 2) = true := by rw [hl2]; rfl
      have e1' : (v.length == 2) = true := by rw [hl2]; rfl
      generalize v.length = L at *
      generalize p.length = np at *
      clear hp pv hup hpn hpu hd1 hd2 hb0 hrv hr hW hbz h1n hl2
      go_enter Try.func45, Try.ntmps45
      go_wp2_with fail
      rw [HW.out, HBz.out]
      refine HPa.out.mono ?_
      rintro e w1 ⟨rfl, hb⟩
      have HB1 := Lib.hid (HB.out.trans (hb.mono (Nat.le_of_lt hs1)))
      clear hb
      go_wp2_with fail
      go_ret3
      exact ⟨rfl, by rw [HBz.out]; exact HB1.out⟩
    · have HX := Lib.hid (show exG v den p = ((bsF (excF v den p) (v.length - 1) : Nat) : Int) ∧ exN v den p = excF v den p (bsF (excF v den p) (v.length - 1)) ∧ exE v den p = 0 from ⟨if_pos ⟨hp, by rw [pv.pl]; exact h1n⟩, if_pos ⟨hp, by rw [pv.pl]; exact h1n⟩, by unfold exE; rw [if_pos hp, pv.pl, if_neg h1n]⟩)
      rw [HX.out.1, HX.out.2.1, HX.out.2.2]
      have hL4 : 4 ≤ v.length := by
        rw [pv.len]
        have := pv.one
        exact Nat.pow_le_pow_right (n := 2) (i := 2) (by omega) (by omega)
      have HG := Lib.hid (fun g (hg : g < 9223372036854775808) w h => gets_any den A p c g hg (by rw [hpn]; exact hn5) hpu w h)
      have HUp := Lib.hid hup
      have HF := Lib.hid (fun g => show excF v den p g = den * nth v g - getsF (nth p) g p.length from rfl)
      have HGl := Lib.hid (fun g => gets_le (p := p) (g := g) hpu (show p.length ≤ 40 by omega))
      obtain ⟨L, hL⟩ : ∃ L, v.length = L := ⟨_, rfl⟩
      have HL := Lib.hid hL
      rw [hL] at HPa h32 hL0 hL4 hl ⊢
      obtain ⟨l1, hl1⟩ : ∃ l1, L - 1 = l1 := ⟨_, rfl⟩
      have HL1 := Lib.hid hl1
      rw [hl1]
      have hcl : (L : Int) - 1 = (l1 : Int) := by omega
      have e1 : ((L : Int) == 2) = false := by rw [beq_eq_false_iff_ne]; omega
      have e1' : (L == 2) = false := by rw [beq_eq_false_iff_ne]; omega
      generalize excF v den p = F at *
      generalize getsF (nth p) = GG at *
      obtain ⟨np, hnp⟩ : ∃ np, p.length = np := ⟨_, rfl⟩
      rw [hnp] at HW HPa h1 H1 HF HGl HG hpl ⊢
      have HLt := Lib.hid (bsF_lt F)
      have HB2 := Lib.hid (bsF_2 F)
      have HNx := Lib.hid (fun k => show bsF F (k + 1) = if 2 ≤ k ∧ F (bsF F k) < F k then k else bsF F k from rfl)
      generalize bsF F = bs at *
      have HVb := Lib.hid (fun g => den_le hd1 hd2 (upB_nth HUp.out (by omega) g))
      clear hp pv hup hpn hpu hb0 hrv hr hW hbz hL hnp HX h1n hl1
      go_enter Try.func45, Try.ntmps45
      go_wp2_with fail
      rw [HW.out, HBz.out]
      refine HPa.out.mono ?_
      rintro e w1 ⟨rfl, hb⟩
      have K0 := Lib.hid ((hb.cell (p := ⟨b, 0, none⟩) hs1).trans H0.out)
      have K1 := Lib.hid ((hb.cell (p := ⟨b, 1, none⟩) hs1).trans H1.out)
      have HB1 := Lib.hid (HB.out.trans (hb.mono (Nat.le_of_lt hs1)))
      have HB1s := Lib.hid (show b < w1.heap.size by have := hb.size; omega)
      have HRv1 := Lib.hid ((HRv.out.below hb (Nat.le_refl _)).more hb.size)
      have HRp1 := Lib.hid ((HRp.out.below hb (Nat.le_refl _)).more hb.size)
      clear hb h0 h1
      go_wp2_with fail
      go_loopw [8, 9] (fun u z wr => ∃ k : Nat, 2 ≤ k ∧ k ≤ l1 ∧ u = .int .i64 ((bs k : Nat) : Int) ∧ z = .int .i64 (k : Int) ∧ Below w1.heap.size w1 wr) (fun _ z _ => l1 - (intOf z).toNat)
      case atStart => exact ⟨2, by omega, by have := HL1.out; omega, by rw [HB2.out] <;> rfl, rfl, Below.refl _ _⟩
      case round =>
        obtain ⟨k, hk2, hkl, rfl, rfl, hb⟩ := hrel
        have BW := Lib.hid hb
        have hbk := (HLt.out k).2 hk2
        have hl1L : l1 < L := by have := HL1.out; omega
        have k0 := (hb.cell (p := ⟨b, 0, none⟩) HB1s.out).trans K0.out
        have k1 := (hb.cell (p := ⟨b, 1, none⟩) HB1s.out).trans K1.out
        have g0 := fun d os => cell_regrown k0 d os
        have g1 := fun d os => cell_regrown k1 d os
        have HRpr := Lib.hid ((HRp1.out.below hb (Nat.le_refl _)).more hb.size)
        obtain ⟨b2, o2, y, hA2, hy, hcy⟩ := (HRv1.out.below hb (Nat.le_refl _)).int (bs k) (by rw [HL.out]; omega)
        subst hA2
        have g2 := fun d os => cell_regrown hcy d os
        have hdy := HVb.out (bs k)
        have hFy := HF.out (bs k)
        rw [nth_get hy.out] at hdy hFy
        have HGy := Lib.hid (fun w h => HG.out (bs k) (by omega) w h)
        have hgy := HGl.out (bs k)
        have a0 : (0 : Int) ≤ ((bs k : Nat) : Int) := by omega
        have a1 : ((bs k : Nat) : Int) < (L : Int) := by omega
        have q1 : IntKind.i64.wrap (den * y) = den * y := wrapI_mid (by unfold Mid; omega)
        have q2 : IntKind.i64.wrap (den * y - GG (bs k) np) = den * y - GG (bs k) np := wrapI_mid (by unfold Mid; omega)
        have HFy := Lib.hid hFy
        generalize GG (bs k) np = gy at *
        by_cases hlt : k < l1
        · obtain ⟨b3, o3, x, hA3, hx, hcx⟩ := (HRv1.out.below hb (Nat.le_refl _)).int k (by rw [HL.out]; omega)
          cases hA3
          have g3 := fun d os => cell_regrown hcx d os
          have hdx := HVb.out k
          have hFx := HF.out k
          rw [nth_get hx.out] at hdx hFx
          have HGx := Lib.hid (fun w h => HG.out k (by omega) w h)
          have hgx := HGl.out k
          have a2 : (0 : Int) ≤ (k : Int) := by omega
          have a3 : (k : Int) < (L : Int) := by omega
          have q3 : IntKind.i64.wrap (den * x) = den * x := wrapI_mid (by unfold Mid; omega)
          have q4 : IntKind.i64.wrap (den * x - GG k np) = den * x - GG k np := wrapI_mid (by unfold Mid; omega)
          have HFx := Lib.hid hFx
          generalize GG k np = gx at *
          have e2 : decide ((k : Int) < (L : Int) - 1) = true := decide_eq_true (by omega)
          have HN := Lib.hid (HNx.out k)
          rw [HFx.out, HFy.out] at HN
          have hlt' : (k : Int) < (l1 : Int) := by omega
          clear hb k0 k1 hcx hcy hx hy hdx hdy hgx hgy hFx hFy hbk
          by_cases hcmp : den * y - gy < den * x - gx
          · have e3 : decide (den * y - gy < den * x - gx) = true := decide_eq_true hcmp
            have HN2 := Lib.hid (show bs (k + 1) = k by rw [HN.out, if_pos ⟨hk2, hcmp⟩])
            clear hcmp
            go_wp2_with fail
            refine wp_region_quiet_below (by kernel_rfl) (by kernel_rfl) ?_
            repeat (go_big_quiet_step (with_reducible first | exact Calls.regrown_of (HGx.out _ (rd_grown HRpr.out _ _)) | exact Calls.regrown_of (HGy.out _ (rd_grown HRpr.out _ _))))
            refine wpQuiet_nil ?_
            intro _ hw'
            obtain ⟨⟨dq, osq⟩, hw''⟩ := hw'
            subst hw''
            have HB6 := Lib.hid (BW.out.trans ((below_regrown wr dq osq).mono BW.out.size))
            go_wp2_with fail
            go_roundw
            case rel => exact ⟨k + 1, by omega, by omega, by rw [HN2.out], by go_num, HB6.out⟩
            case measure => simp [intOf]; omega
          · have e3 : decide (den * y - gy < den * x - gx) = false := decide_eq_false hcmp
            have HN2 := Lib.hid (show bs (k + 1) = bs k by rw [HN.out, if_neg (fun h => hcmp h.2)])
            clear hcmp
            go_wp2_with fail
            refine wp_region_quiet_below (by kernel_rfl) (by kernel_rfl) ?_
            repeat (go_big_quiet_step (with_reducible first | exact Calls.regrown_of (HGx.out _ (rd_grown HRpr.out _ _)) | exact Calls.regrown_of (HGy.out _ (rd_grown HRpr.out _ _))))
            refine wpQuiet_nil ?_
            intro _ hw'
            obtain ⟨⟨dq, osq⟩, hw''⟩ := hw'
            subst hw''
            have HB6 := Lib.hid (BW.out.trans ((below_regrown wr dq osq).mono BW.out.size))
            go_wp2_with fail
            go_roundw
            case rel => exact ⟨k + 1, by omega, by omega, by rw [HN2.out], by go_num, HB6.out⟩
            case measure => simp [intOf]; omega
        · have hkl1 : k = l1 := by omega
          subst hkl1
          have e2 : decide ((k : Int) < (L : Int) - 1) = false := decide_eq_false (by omega)
          clear hb k0 k1 hcy hy hdy hgy hFy hbk hlt
          go_wp2_with fail
          refine wp_region_quiet_below (by kernel_rfl) (by kernel_rfl) ?_
          repeat (go_big_quiet_step (with_reducible exact Calls.regrown_of (HGy.out _ (rd_grown HRpr.out _ _))))
          refine wpQuiet_nil ?_
          intro _ hw'
          obtain ⟨⟨dq, osq⟩, hw''⟩ := hw'
          subst hw''
          have HB6 := Lib.hid (HB1.out.trans ((BW.out.trans ((below_regrown wr dq osq).mono BW.out.size)).mono (Nat.le_of_lt HB1s.out)))
          go_wp2_with fail
          go_ret3
          exact ⟨by rw [HFy.out] <;> rfl, by rw [HBz.out]; exact HB6.out⟩
end Go.Proofs.Ytfmhanpibgmgfaa

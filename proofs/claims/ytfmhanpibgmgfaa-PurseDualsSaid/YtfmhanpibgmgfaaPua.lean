/-
  Balances: the walk of CheckBalance. Conditions: the lists can be read.
-/
import Derived.Test.YtfmhanpibgmgfaaPu9
namespace Go.Proofs.Ytfmhanpibgmgfaa
open Go.RowKit
set_option linter.unusedVariables false

theorem earn_next {v : List Int} {xs : List Pt} {k : Nat} {x : Pt} (h : xs[k]? = some x) : earnF v (xs.take (k + 1)) = earnF v (xs.take k) + x.y * nth v x.x.toNat := by
  unfold earnF
  rw [List.take_add_one, h]
  show (List.map _ (xs.take k ++ [x])).sum = _
  rw [List.map_append, List.sum_append]
  simp
theorem earn_le {v : List Int} {m : Nat} (hv : upB 1000 v = true) : ∀ {xs : List Pt}, xs.all (partOk m) = true → -(1000000 * (xs.length : Int)) ≤ earnF v xs ∧ earnF v xs ≤ 1000000 * (xs.length : Int)
  | [], h => by simp [earnF]
  | x :: r, h => by
    rw [List.all_cons, Bool.and_eq_true] at h
    have h1 := earn_le hv (xs := r) h.2
    have h2 := h.1
    unfold partOk at h2
    simp only [Bool.and_eq_true, decide_eq_true_eq] at h2
    have h3 := mul_le (A := 1000) (B := 1000) (u := x.y) (v := nth v x.x.toNat) (by omega) (upB_nth hv (by omega) _)
    unfold earnF at *
    rw [List.map_cons, List.sum_cons, List.length_cons]
    rw [show ((r.length + 1 : Nat) : Int) = (r.length : Int) + 1 by omega]
    omega
set_option maxRecDepth 8000 in
set_option maxHeartbeats 8000000 in
theorem CheckBalance_any (Av : Option Addr) (v : List Int) (cv : Nat) (den : Int) (A : Option Addr) (xs : List Pt) (c : Nat) (hl : v.length ≤ 9223372036854775807) (hpl : xs.length ≤ 9223372036854775807) (w : World) (hrv : Rd w w.heap.size Av (ints v)) (hr : Rd w w.heap.size A (xs.flatMap Pt.cells)) :
    Calls Try.prog 50 #[.slice Av v.length cv, .agg #[.int .i64 den, .slice A xs.length c]] w fun e w' => e = .returned (.int .i64 (cbE v den xs)) ∧ Below w.heap.size w w' := by
  obtain ⟨W, hW, h0, h1, hs1, hb0⟩ := one_pt w (.int .i64 den) (.slice A xs.length c) 52
  have HW := Lib.hid hW
  have HB := Lib.hid hb0
  have HV := Lib.hid (Validate_any Av v cv hl W ((hrv.below hb0 (Nat.le_refl _)).more (Nat.le_of_lt hs1)))
  have HRv := Lib.hid ((hrv.below hb0 (Nat.le_refl _)).more (Nat.le_of_lt hs1))
  have HRp := Lib.hid ((hr.below hb0 (Nat.le_refl _)).more (Nat.le_of_lt hs1))
  have HPl := Lib.hid (fun w => (players_any Av v.length cv hl w).mono (R' := fun e w' => e = .returned (.int .i64 (plZ v.length)) ∧ Below w.heap.size w w') fun e w' h => ⟨h.1, by rw [← h.2]; exact Below.refl _ _⟩)
  obtain ⟨b, hbz⟩ : ∃ b, w.heap.size = b := ⟨_, rfl⟩
  have HBz := Lib.hid hbz
  rw [hbz] at h0 h1 HB hs1
  have H0 := Lib.hid h0
  have H1 := Lib.hid h1
  by_cases hv : vdE v = 0
  case neg =>
    have HX := Lib.hid (show cbE v den xs = 1 by unfold cbE; rw [if_neg hv, vd_bad v hv])
    rw [vd_bad v hv] at HV
    generalize v.length = L at *
    generalize xs.length = np at *
    clear hv hb0 hrv hr hW h0 h1 HPl hbz
    go_enter Try.func50, Try.ntmps50
    go_wp2_with fail
    rw [HW.out]
    refine HV.out.mono ?_
    rintro e w1 ⟨rfl, hb⟩
    have HB1 := Lib.hid (HB.out.trans (hb.mono (Nat.le_of_lt hs1)))
    clear hb
    go_wp2_with fail
    go_ret
    exact ⟨by rw [HX.out] <;> rfl, by rw [HBz.out]; exact HB1.out⟩
  case pos =>
    obtain ⟨n, pv, hup⟩ := vdE_pv hv
    have hpz := pv.plZ
    have h32 := pv.le
    have hL0 : 1 ≤ v.length := by rw [pv.len]; exact Nat.two_pow_pos n
    have hn5 := pv.five
    have HUp := Lib.hid hup
    have HX := Lib.hid (show cbE v den xs = if (decide (1 ≤ den) && decide (den ≤ 1000) && decide (xs.length ≤ 32) && xs.all (partOk v.length) && balB xs den n) = true then (if earnF v xs ≤ den * nth v (v.length - 1) then 7 else 0) else 1 by unfold cbE; rw [if_pos hv, pv.pl])
    have HX2 := Lib.hid (show cbE v den xs = if (decide (1 ≤ den) && decide (den ≤ 1000) && (partsB xs v.length && balB xs den n)) = true then (if earnF v xs ≤ den * nth v (v.length - 1) then 7 else 0) else 1 by
      rw [HX.out]
      unfold partsB
      simp only [Bool.and_assoc])
    have HAp := Lib.hid (fun w h => areParts_any A xs c Av v.length cv hL0 h32 hpl w h)
    have HIb := Lib.hid (fun hok w h => isBalanced_any den A xs c n v.length hn5 h32 hok w h)
    rw [hv] at HV
    rw [hpz] at HPl
    obtain ⟨L, hLL⟩ : ∃ L, v.length = L := ⟨_, rfl⟩
    have HLL := Lib.hid hLL
    obtain ⟨np, hnp⟩ : ∃ np, xs.length = np := ⟨_, rfl⟩
    have HNp := Lib.hid hnp
    rw [hLL] at HV HX2 HAp HIb HPl h32 hL0 hl ⊢
    rw [hnp] at HW H1 h1 HAp HIb hpl ⊢
    have HS1 := Lib.hid hs1
    clear hv pv hup hpz hb0 hrv hr hW h0 h1 hnp hbz HX hLL
    by_cases c1 : den < 1
    · have e1 : decide (den < 1) = true := decide_eq_true c1
      have HZ := Lib.hid (show cbE v den xs = 1 by rw [HX2.out, decide_eq_false (show ¬ 1 ≤ den by omega)]; rfl)
      clear c1
      go_enter Try.func50, Try.ntmps50
      go_wp2_with fail
      rw [HW.out, HBz.out]
      refine HV.out.mono ?_
      rintro e w1 ⟨rfl, hb⟩
      have g0 := fun d os => cell_regrown ((hb.cell (p := ⟨b, 0, none⟩) hs1).trans H0.out) d os
      have g1 := fun d os => cell_regrown ((hb.cell (p := ⟨b, 1, none⟩) hs1).trans H1.out) d os
      have HB1 := Lib.hid (HB.out.trans (hb.mono (Nat.le_of_lt hs1)))
      have HB1s := Lib.hid (show W.heap.size ≤ w1.heap.size from hb.size)
      have HRp1 := Lib.hid ((HRp.out.below hb (Nat.le_refl _)).more hb.size)
      have HRv1 := Lib.hid ((HRv.out.below hb (Nat.le_refl _)).more hb.size)
      have HBW := Lib.hid hb
      clear hb
      go_wp2_with fail
      refine wp_region_quiet_below (by kernel_rfl) (by kernel_rfl) ?_
      repeat (go_big_quiet_step (with_reducible first | exact Calls.regrown_of (HPl.out _) | exact Calls.regrown_of (HAp.out _ (rd_grown HRp1.out _ _))))
      refine wpQuiet_nil ?_
      intro _ hw'
      obtain ⟨⟨dq, osq⟩, hw''⟩ := hw'
      subst hw''
      have HB6 := Lib.hid (HB1.out.trans ((below_regrown w1 dq osq).mono (Nat.le_trans (Nat.le_of_lt HS1.out) HB1s.out)))
      go_wp2_with fail
      go_ret
      exact ⟨by rw [HZ.out] <;> rfl, by rw [HBz.out]; exact HB6.out⟩
    · have e1 : decide (den < 1) = false := decide_eq_false c1
      by_cases c2 : 1000 < den
      · have e2 : decide (1000 < den) = true := decide_eq_true c2
        have HZ := Lib.hid (show cbE v den xs = 1 by rw [HX2.out, decide_eq_false (show ¬ den ≤ 1000 by omega), Bool.and_false]; rfl)
        clear c1 c2
        go_enter Try.func50, Try.ntmps50
        go_wp2_with fail
        rw [HW.out, HBz.out]
        refine HV.out.mono ?_
        rintro e w1 ⟨rfl, hb⟩
        have g0 := fun d os => cell_regrown ((hb.cell (p := ⟨b, 0, none⟩) hs1).trans H0.out) d os
        have g1 := fun d os => cell_regrown ((hb.cell (p := ⟨b, 1, none⟩) hs1).trans H1.out) d os
        have HB1 := Lib.hid (HB.out.trans (hb.mono (Nat.le_of_lt hs1)))
        have HB1s := Lib.hid (show W.heap.size ≤ w1.heap.size from hb.size)
        have HRp1 := Lib.hid ((HRp.out.below hb (Nat.le_refl _)).more hb.size)
        have HRv1 := Lib.hid ((HRv.out.below hb (Nat.le_refl _)).more hb.size)
        have HBW := Lib.hid hb
        clear hb
        go_wp2_with fail
        refine wp_region_quiet_below (by kernel_rfl) (by kernel_rfl) ?_
        repeat (go_big_quiet_step (with_reducible first | exact Calls.regrown_of (HPl.out _) | exact Calls.regrown_of (HAp.out _ (rd_grown HRp1.out _ _))))
        refine wpQuiet_nil ?_
        intro _ hw'
        obtain ⟨⟨dq, osq⟩, hw''⟩ := hw'
        subst hw''
        have HB6 := Lib.hid (HB1.out.trans ((below_regrown w1 dq osq).mono (Nat.le_trans (Nat.le_of_lt HS1.out) HB1s.out)))
        go_wp2_with fail
        go_ret
        exact ⟨by rw [HZ.out] <;> rfl, by rw [HBz.out]; exact HB6.out⟩
      · have e2 : decide (1000 < den) = false := decide_eq_false c2
        have hd1 : 1 ≤ den := by omega
        have hd2 : den ≤ 1000 := by omega
        rw [decide_eq_true hd1, decide_eq_true hd2, Bool.true_and, Bool.true_and] at HX2
        clear c1 c2
        cases hpa : partsB xs L
        · have HZ := Lib.hid (show cbE v den xs = 1 by rw [HX2.out, hpa]; rfl)
          rw [hpa] at HAp
          clear hpa
          go_enter Try.func50, Try.ntmps50
          go_wp2_with fail
          rw [HW.out, HBz.out]
          refine HV.out.mono ?_
          rintro e w1 ⟨rfl, hb⟩
          have g0 := fun d os => cell_regrown ((hb.cell (p := ⟨b, 0, none⟩) hs1).trans H0.out) d os
          have g1 := fun d os => cell_regrown ((hb.cell (p := ⟨b, 1, none⟩) hs1).trans H1.out) d os
          have HB1 := Lib.hid (HB.out.trans (hb.mono (Nat.le_of_lt hs1)))
          have HB1s := Lib.hid (show W.heap.size ≤ w1.heap.size from hb.size)
          have HRp1 := Lib.hid ((HRp.out.below hb (Nat.le_refl _)).more hb.size)
          have HRv1 := Lib.hid ((HRv.out.below hb (Nat.le_refl _)).more hb.size)
          have HBW := Lib.hid hb
          clear hb
          go_wp2_with fail
          refine wp_region_quiet_below (by kernel_rfl) (by kernel_rfl) ?_
          repeat (go_big_quiet_step (with_reducible first | exact Calls.regrown_of (HPl.out _) | exact Calls.regrown_of (HAp.out _ (rd_grown HRp1.out _ _))))
          refine wpQuiet_nil ?_
          intro _ hw'
          obtain ⟨⟨dq, osq⟩, hw''⟩ := hw'
          subst hw''
          have HB6 := Lib.hid (HB1.out.trans ((below_regrown w1 dq osq).mono (Nat.le_trans (Nat.le_of_lt HS1.out) HB1s.out)))
          go_wp2_with fail
          go_ret
          exact ⟨by rw [HZ.out] <;> rfl, by rw [HBz.out]; exact HB6.out⟩
        · have HIb2 := Lib.hid (HIb.out hpa)
          rw [hpa, Bool.true_and] at HX2
          have hpa2 := hpa
          unfold partsB at hpa2
          rw [Bool.and_eq_true, decide_eq_true_iff, HNp.out] at hpa2
          have HAll := Lib.hid hpa2.2
          have hn32 := hpa2.1
          rw [hpa] at HAp
          clear hpa hpa2 HIb
          cases hba : balB xs den n
          · have HZ := Lib.hid (show cbE v den xs = 1 by rw [HX2.out, hba]; rfl)
            rw [hba] at HIb2
            clear hba
            go_enter Try.func50, Try.ntmps50
            go_wp2_with fail
            rw [HW.out, HBz.out]
            refine HV.out.mono ?_
            rintro e w1 ⟨rfl, hb⟩
            have g0 := fun d os => cell_regrown ((hb.cell (p := ⟨b, 0, none⟩) hs1).trans H0.out) d os
            have g1 := fun d os => cell_regrown ((hb.cell (p := ⟨b, 1, none⟩) hs1).trans H1.out) d os
            have HB1 := Lib.hid (HB.out.trans (hb.mono (Nat.le_of_lt hs1)))
            have HB1s := Lib.hid (show W.heap.size ≤ w1.heap.size from hb.size)
            have HRp1 := Lib.hid ((HRp.out.below hb (Nat.le_refl _)).more hb.size)
            have HRv1 := Lib.hid ((HRv.out.below hb (Nat.le_refl _)).more hb.size)
            have HBW := Lib.hid hb
            clear hb
            go_wp2_with fail
            refine wp_region_quiet_below (by kernel_rfl) (by kernel_rfl) ?_
            repeat (go_big_quiet_step (with_reducible first | exact Calls.regrown_of (HPl.out _) | exact Calls.regrown_of (HAp.out _ (rd_grown HRp1.out _ _)) | exact Calls.regrown_of (HIb2.out _ (rd_grown HRp1.out _ _))))
            refine wpQuiet_nil ?_
            intro _ hw'
            obtain ⟨⟨dq, osq⟩, hw''⟩ := hw'
            subst hw''
            have HB6 := Lib.hid (HB1.out.trans ((below_regrown w1 dq osq).mono (Nat.le_trans (Nat.le_of_lt HS1.out) HB1s.out)))
            go_wp2_with fail
            go_ret
            exact ⟨by rw [HZ.out] <;> rfl, by rw [HBz.out]; exact HB6.out⟩
          · have HZ := Lib.hid (show cbE v den xs = if earnF v xs ≤ den * nth v (L - 1) then 7 else 0 by rw [HX2.out, hba]; rfl)
            rw [hba] at HIb2
            clear hba
            go_enter Try.func50, Try.ntmps50
            go_wp2_with fail
            rw [HW.out, HBz.out]
            refine HV.out.mono ?_
            rintro e w1 ⟨rfl, hb⟩
            have g0 := fun d os => cell_regrown ((hb.cell (p := ⟨b, 0, none⟩) hs1).trans H0.out) d os
            have g1 := fun d os => cell_regrown ((hb.cell (p := ⟨b, 1, none⟩) hs1).trans H1.out) d os
            have HB1 := Lib.hid (HB.out.trans (hb.mono (Nat.le_of_lt hs1)))
            have HB1s := Lib.hid (show W.heap.size ≤ w1.heap.size from hb.size)
            have HRp1 := Lib.hid ((HRp.out.below hb (Nat.le_refl _)).more hb.size)
            have HRv1 := Lib.hid ((HRv.out.below hb (Nat.le_refl _)).more hb.size)
            have HBW := Lib.hid hb
            clear hb
            go_wp2_with fail
            refine wp_region_quiet_below (by kernel_rfl) (by kernel_rfl) ?_
            repeat (go_big_quiet_step (with_reducible first | exact Calls.regrown_of (HPl.out _) | exact Calls.regrown_of (HAp.out _ (rd_grown HRp1.out _ _)) | exact Calls.regrown_of (HIb2.out _ (rd_grown HRp1.out _ _))))
            refine wpQuiet_nil ?_
            intro _ hw'
            obtain ⟨⟨dq, osq⟩, hw''⟩ := hw'
            subst hw''
            have HB6 := Lib.hid (HB1.out.trans ((below_regrown w1 dq osq).mono (Nat.le_trans (Nat.le_of_lt HS1.out) HB1s.out)))
            obtain ⟨w3, hw3⟩ : ∃ w3, Go.Sort.grow (redrawn w1 dq) osq = w3 := ⟨_, rfl⟩
            have HBb := Lib.hid (HBW.out.trans ((below_regrown w1 dq osq).mono HB1s.out))
            have HRp3 := Lib.hid (rd_grown HRp1.out dq osq)
            have HRv3 := Lib.hid (rd_grown HRv1.out dq osq)
            have m0 := g0 dq osq
            have m1 := g1 dq osq
            rw [hw3] at HB6 HBb HRp3 HRv3 m0 m1 ⊢
            clear hw3 g0 g1
            have HM0 := Lib.hid m0
            have HLw := Lib.hid (show b < w3.heap.size by have := HBb.out.size; have := HS1.out; omega)
            go_wp2_with fail
            go_loopw [6, 39] (fun tv z wr => ∃ k : Nat, k ≤ np ∧ tv = .int .i64 (earnF v (xs.take k)) ∧ z = .int .i64 (k : Int) ∧ Below w3.heap.size w3 wr) (fun _ z _ => np - (intOf z).toNat)
            case atStart => exact ⟨0, by omega, rfl, rfl, Below.refl _ _⟩
            case round =>
              obtain ⟨k, hk, rfl, rfl, hb⟩ := hrel
              have BB2 := Lib.hid hb
              by_cases hlt2 : k < np
              · obtain ⟨b2, o2, x, rfl, hx, hc0, hc1⟩ := (HRp3.out.below hb (Nat.le_refl _)).pt k (by rw [HNp.out]; exact hlt2)
                obtain ⟨W2, hW2, a0, a1, hs2, hb2⟩ := one_pt wr (.int .i64 x.x) (.int .i64 x.y) 59
                have HW2 := Lib.hid hW2
                have HB2 := Lib.hid (BB2.out.trans (hb2.mono BB2.out.size))
                have HNx := Lib.hid (earn_next (v := v) hx.out)
                have hle := earn_le HUp.out (all_takeN HAll.out k)
                have hle2 := earn_le HUp.out (all_takeN HAll.out (k + 1))
                rw [List.length_take] at hle hle2
                have hxok := List.all_eq_true.1 HAll.out x (List.mem_of_getElem? hx.out)
                unfold partOk at hxok
                simp only [Bool.and_eq_true, decide_eq_true_eq] at hxok
                obtain ⟨g, hg⟩ : ∃ g : Nat, x.x = (g : Int) := ⟨x.x.toNat, by omega⟩
                rw [hg] at hc0 a0 HNx hxok HW2
                rw [Int.toNat_natCast] at HNx
                obtain ⟨b3, o3, d, rfl, hd, hc⟩ := ((HRv3.out.below HB2.out (Nat.le_refl _))).int g (by rw [HLL.out]; omega)
                rw [nth_get hd.out] at HNx
                have c2 : (0 : Int) ≤ (k : Int) := by omega
                have c3 : (k : Int) < (np : Int) := by omega
                have c4 : (0 : Int) ≤ (g : Int) := by omega
                have c5 : (g : Int) < (L : Int) := by omega
                rw [HNx.out] at hle2
                have hvb := upB_nth HUp.out (by omega) g
                rw [nth_get hd.out] at hvb
                generalize x.y = y at *
                have hyd := mul_le (A := 1000) (B := 1000) (u := y) (v := d) (by omega) hvb
                generalize earnF v (xs.take k) = t at *
                have q1 : IntKind.i64.wrap (y * d) = y * d := wrapI_mid (by unfold Mid; omega)
                have q2 : IntKind.i64.wrap (t + y * d) = t + y * d := wrapI_mid (by unfold Mid; omega)
                clear hW2 hb2 hx hg hb hle hle2 hyd hvb hd hxok
                go_wp2_with fail
                rw [HW2.out]
                go_quiet (fail)
                go_wp2_with fail
                go_roundw
                case rel => exact ⟨k + 1, by omega, by rw [HNx.out], by go_num, bdN' HB2.out _⟩
                case measure => simp [intOf]; omega
              · have hks : k = np := by omega
                subst hks
                have htk : xs.take k = xs := by rw [List.take_of_length_le (by rw [HNp.out]; exact Nat.le_refl _)]
                rw [htk]
                have k0 : wr.cell? ⟨b, 0, none⟩ = some (.int .i64 den) := (hb.cell (p := ⟨b, 0, none⟩) HLw.out).trans HM0.out
                obtain ⟨b3, o3, d, hA3, hd, hc⟩ := ((HRv3.out.below hb (Nat.le_refl _))).int (L - 1) (by rw [HLL.out]; omega)
                subst hA3
                have hND := nth_get hd.out
                have hvb := upB_nth HUp.out (by omega) (L - 1)
                rw [hND] at hvb
                have hdd := den_le hd1 hd2 hvb
                have HWh := Lib.hid (fun w => whole_any (some ⟨b3, o3, none⟩) L cv hL0 (by omega) w)
                have HZ2 := Lib.hid (show cbE v den xs = if earnF v xs ≤ den * d then 7 else 0 by rw [HZ.out, hND])
                obtain ⟨k1, hk1⟩ : ∃ k1, L - 1 = k1 := ⟨_, rfl⟩
                rw [hk1] at hc HWh
                have c4 : (0 : Int) ≤ (k1 : Int) := by omega
                have c5 : (k1 : Int) < (L : Int) := by omega
                have q1 : IntKind.i64.wrap (den * d) = den * d := wrapI_mid (by unfold Mid; omega)
                have HB9 := Lib.hid (HB6.out.trans (hb.mono (Nat.le_of_lt HLw.out)))
                generalize earnF v xs = t at *
                clear hlt2 htk hdd hvb hd hb hND hk1
                by_cases hcmp : t ≤ den * d
                · have e5 : decide (t ≤ den * d) = true := decide_eq_true hcmp
                  rw [if_pos hcmp] at HZ2
                  clear hcmp
                  go_wp2_with fail
                  go_quiet ((go_at_call 70; first | exact qs (HWh.out _) | exact qs0 (HWh.out _)))
                  go_wp2_with fail
                  go_ret
                  exact ⟨by rw [HZ2.out] <;> rfl, by rw [HBz.out]; exact bdN' HB9.out _⟩
                · have e5 : decide (t ≤ den * d) = false := decide_eq_false hcmp
                  rw [if_neg hcmp] at HZ2
                  clear hcmp
                  go_wp2_with fail
                  go_quiet ((go_at_call 70; first | exact qs (HWh.out _) | exact qs0 (HWh.out _)))
                  go_wp2_with fail
                  go_ret
                  exact ⟨by rw [HZ2.out] <;> rfl, by rw [HBz.out]; exact bdN' HB9.out _⟩
end Go.Proofs.Ytfmhanpibgmgfaa

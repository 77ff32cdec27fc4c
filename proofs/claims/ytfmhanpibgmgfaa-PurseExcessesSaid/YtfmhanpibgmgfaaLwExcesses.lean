/-
  The walk of the law PurseExcesses: it returns true. Conditions: the lists can be read.
-/
import Derived.Test.YtfmhanpibgmgfaaPuk
import Derived.Test.YtfmhanpibgmgfaaPul
namespace Go.Proofs.Ytfmhanpibgmgfaa
open Go.RowKit
set_option linter.unusedVariables false

/-- The core by excesses. -/
theorem core_exc {v : List Int} {den : Int} {p : List Int} (h : exE v den p = 0) : payE v den p = 0 ∧ (ccE v den p = 0 ↔ exN v den p ≤ 0 ∧ sI (nth p) p.length = den * nth v (v.length - 1)) := by
  unfold exE at h
  split at h
  case isFalse => contradiction
  rename_i hp
  split at h
  case isTrue => cases h
  rename_i h1
  obtain ⟨n, pv, hup, hpn, hpu, hd1, hd2⟩ := payE_ok hp
  refine ⟨hp, ?_⟩
  have hN : exN v den p = excF v den p (bsF (excF v den p) (v.length - 1)) := if_pos ⟨hp, h1⟩
  have hC : ccE v den p = if coreB (excF v den p) v.length = true then 0 else 7 := if_pos hp
  rw [pv.pl] at h1
  have hn1 := pv.one
  have hL : 4 ≤ v.length := by
    rw [pv.len]
    exact Nat.pow_le_pow_right (n := 2) (i := 2) (by omega) (by omega)
  have hbs := bsF_lt (excF v den p) (v.length - 1)
  have hmax := bsF_max (excF v den p) (v.length - 1)
  have hw : excF v den p (v.length - 1) = den * nth v (v.length - 1) - sI (nth p) p.length := by
    unfold excF
    rw [hpn, pv.len, gets_whole]
  have h0 : excF v den p 0 = 0 := by
    unfold excF
    rw [pv.zero, Int.mul_zero]
    have : getsF (nth p) 0 p.length = 0 := by
      unfold getsF
      rw [sI_congr (g := fun _ => 0) fun i _ => by simp, sI_zero]
    omega
  rw [hN, hC]
  constructor
  · intro h
    split at h
    case isFalse => cases h
    rename_i hcore
    obtain ⟨c1, c2⟩ := coreB_iff.1 hcore
    exact ⟨c2 _ (by have := hbs.2 (by omega); omega), by omega⟩
  · rintro ⟨c1, c2⟩
    rw [if_pos]
    refine coreB_iff.2 ⟨by omega, fun g hg => ?_⟩
    by_cases hg0 : g = 0
    · subst hg0; omega
    · by_cases hgl : g = v.length - 1
      · subst hgl; omega
      · have := hmax g (by omega) (by omega)
        omega
set_option maxRecDepth 8000 in
set_option maxHeartbeats 8000000 in
theorem PurseExcesses_walk (Av : Option Addr) (v : List Int) (cv : Nat) (den : Int) (A : Option Addr) (p : List Int) (c : Nat) (hl : v.length ≤ 9223372036854775807) (hpl : p.length ≤ 9223372036854775807) (w : World) (hrv : Rd w w.heap.size Av (ints v)) (hr : Rd w w.heap.size A (ints p)) :
    Calls Try.prog 14 #[.slice Av v.length cv, .agg #[.int .i64 den, .slice A p.length c]] w fun e w' => e = .returned (.bool true) ∧ Below w.heap.size w w' := by
  obtain ⟨W1, hW1, h0, h1, s1, b1⟩ := one_pt w (.int .i64 den) (.slice A p.length c) 44
  have HW1 := Lib.hid hW1
  obtain ⟨s, hs⟩ : ∃ s, w.heap.size = s := ⟨_, rfl⟩
  have HS := Lib.hid hs
  have hz1 : W1.heap.size = s + 1 := by rw [← hW1]; simp [hs]
  have HB := Lib.hid (show Below s w W1 by rw [← hs]; exact b1)
  have HRv := Lib.hid ((hrv.below b1 (Nat.le_refl _)).more b1.size)
  have HRp := Lib.hid ((hr.below b1 (Nat.le_refl _)).more b1.size)
  rw [hs] at h0 h1
  have HLo := Lib.hid (long_any Av A v.length cv p.length c hl hpl W1)
  have HKn := Lib.hid (fun w => known_any w)
  have HEx := Lib.hid (Excess_any Av v cv den A p c hl hpl W1 HRv.out HRp.out)
  have HCC := Lib.hid (fun w h h' => CheckCore_any Av v cv den A p c hl hpl w h h')
  have HZ1 := Lib.hid hz1
  have H0 := Lib.hid h0
  have H1 := Lib.hid h1
  obtain ⟨nv, hnv⟩ : ∃ nv, v.length = nv := ⟨_, rfl⟩
  obtain ⟨np, hnp⟩ : ∃ np, p.length = np := ⟨_, rfl⟩
  have HNv := Lib.hid hnv
  have HNp := Lib.hid hnp
  rw [hnv, hnp] at HLo HEx HCC
  rw [hnp] at h1 H1 HW1 hpl ⊢
  rw [hnv] at hl ⊢
  generalize hlo : (decide (200 < nv) || decide (200 < np)) = lo at *
  clear hW1 hs s1 b1 hrv hr hz1
  cases lo
  case true =>
    clear hlo hnv hnp
    go_enter Try.func14, Try.ntmps14
    go_wp2_with fail
    rw [HW1.out, HS.out]
    refine HLo.out.mono ?_
    rintro e w' ⟨rfl, rfl⟩
    go_wp2_with fail
    refine (HKn.out _).mono ?_
    rintro e w' ⟨rfl, hb⟩
    have HB2 := Lib.hid (HB.out.trans (hb.mono (by rw [HZ1.out]; omega)))
    clear hb
    go_wp2_with fail
    go_ret
    exact ⟨rfl, by rw [HS.out]; exact HB2.out⟩
  case false =>
    rw [Bool.or_eq_false_iff, decide_eq_false_iff_not, decide_eq_false_iff_not] at hlo
    by_cases he : exE v den p = 0
    case neg =>
      have e3 : (exE v den p != 0) = true := by rw [bne_iff_ne]; exact he
      generalize exE v den p = ee at *
      generalize exG v den p = eg at *
      generalize exN v den p = en at *
      clear he hlo hnv hnp
      go_enter Try.func14, Try.ntmps14
      go_wp2_with fail
      rw [HW1.out, HS.out]
      refine HLo.out.mono ?_
      rintro e w' ⟨rfl, rfl⟩
      go_wp2_with fail
      refine HEx.out.mono ?_
      rintro e w3 ⟨rfl, hb⟩
      have HB2 := Lib.hid (HB.out.trans (hb.mono (by rw [HZ1.out]; omega)))
      have HZ3 := Lib.hid (show s ≤ w3.heap.size by have := hb.size; rw [HZ1.out] at this; omega)
      clear hb
      go_wp2_with fail
      refine (HKn.out _).mono ?_
      rintro e w' ⟨rfl, hb⟩
      have HB4 := Lib.hid (HB2.out.trans (hb.mono HZ3.out))
      clear hb
      go_wp2_with fail
      go_ret
      exact ⟨rfl, by rw [HS.out]; exact HB4.out⟩
    case pos =>
      obtain ⟨hpay, hiff⟩ := core_exc he
      obtain ⟨n, pv, hup, hpn, hpu, hd1, hd2⟩ := payE_ok hpay
      have hn5 := pv.five
      have hnpn : np = n := by rw [← hnp]; exact hpn
      have hnv1 : 1 ≤ nv := by rw [← hnv, pv.len]; exact Nat.two_pow_pos n
      have hnv32 : nv ≤ 32 := by rw [← hnv]; exact pv.le
      have hvb := upB_nth hup (by omega) (nv - 1)
      have hdd := den_le hd1 hd2 hvb
      have HSum := Lib.hid (fun k (hk : k ≤ 5) => sI_abs (f := nth p) (B := 10000000) (n := k) fun i _ => upB_nth hpu (by omega) i)
      rw [hnp, hnv] at hiff
      have HIff := Lib.hid hiff
      rw [he] at HEx
      generalize exG v den p = eg at *
      generalize exN v den p = en at *
      generalize ccE v den p = ec at *
      have hnp5 : np ≤ 5 := by omega
      obtain ⟨d, hd⟩ : ∃ d, nth v (nv - 1) = d := ⟨_, rfl⟩
      have HD := Lib.hid hd
      rw [hd] at HIff hdd
      have HDD := Lib.hid hdd
      clear he hlo hpay hiff pv hup hpn hpu hnpn hvb hd hdd
      go_enter Try.func14, Try.ntmps14
      go_wp2_with fail
      rw [HW1.out, HS.out]
      refine HLo.out.mono ?_
      rintro e w' ⟨rfl, rfl⟩
      go_wp2_with fail
      refine HEx.out.mono ?_
      rintro e w3 ⟨rfl, hb⟩
      have HB2 := Lib.hid (HB.out.trans (hb.mono (by rw [HZ1.out]; omega)))
      have HZ3 := Lib.hid (show s + 1 ≤ w3.heap.size by have := hb.size; rw [HZ1.out] at this; omega)
      have HRv3 := Lib.hid ((HRv.out.below hb (Nat.le_refl _)).more hb.size)
      have HRp3 := Lib.hid ((HRp.out.below hb (Nat.le_refl _)).more hb.size)
      have k0 := (hb.cell (p := ⟨s, 0, none⟩) (by rw [HZ1.out]; exact Nat.lt_succ_self s)).trans H0.out
      have k1 := (hb.cell (p := ⟨s, 1, none⟩) (by rw [HZ1.out]; exact Nat.lt_succ_self s)).trans H1.out
      clear hb h0 h1 hnv hnp
      go_wp2_with fail
      go_loop [8, 9] (fun u z => ∃ k : Nat, k ≤ np ∧ u = .int .i64 (sI (nth p) k) ∧ z = .int .i64 (k : Int)) (fun _ z => np - (intOf z).toNat)
      case atStart => exact ⟨0, by omega, rfl, rfl⟩
      case round =>
        obtain ⟨k, hk, rfl, rfl⟩ := hrel
        by_cases hlt : k < np
        · obtain ⟨b2, o2, x, hA2, hx, hc⟩ := HRp3.out.int k (by rw [HNp.out]; exact hlt)
          subst hA2
          have b0 : (0 : Int) ≤ (k : Int) := by omega
          have b1 : (k : Int) < (np : Int) := by omega
          have hs1 := HSum.out (k + 1) (by omega)
          have HNx := Lib.hid (show sI (nth p) (k + 1) = sI (nth p) k + x by show sI (nth p) k + nth p k = _; rw [nth_get hx.out])
          rw [HNx.out] at hs1
          have hk5 : ((k + 1 : Nat) : Int) ≤ 5 := by omega
          have HQ := Lib.hid (show wrap64 (sI (nth p) k + x) = sI (nth p) k + x from wrap_mid (by unfold Mid; omega))
          have hq := HQ.out
          clear hx hs1 hk5
          go_wp2_with fail
          go_round
          case rel => exact ⟨k + 1, by omega, by rw [HNx.out] <;> first | rfl | (rw [HQ.out] <;> rfl), by go_num⟩
          case measure => simp [intOf]; omega
        · have hkn : k = np := by omega
          subst hkn
          have HC3 := Lib.hid (HCC.out w3 HRv3.out HRp3.out)
          generalize sI (nth p) k = sm at *
          clear hlt
          go_wp2_with fail
          refine HC3.out.mono ?_
          rintro e w5 ⟨rfl, hb⟩
          have HB5 := Lib.hid (HB2.out.trans (hb.mono (by have := HZ3.out; omega)))
          have HZ5 := Lib.hid (show s ≤ w5.heap.size by have := hb.size; have := HZ3.out; omega)
          have l0 := (hb.cell (p := ⟨s, 0, none⟩) HZ3.out).trans k0
          obtain ⟨b3, o3, d3, hA3, hd3, hc3⟩ := ((HRv3.out.below hb (Nat.le_refl _)).int (nv - 1) (by rw [HNv.out]; omega))
          have hdd3 : d3 = d := by rw [← HD.out]; exact (nth_get hd3.out).symm
          subst hdd3 hA3
          obtain ⟨v1, hv1⟩ : ∃ v1, nv - 1 = v1 := ⟨_, rfl⟩
          rw [hv1] at hc3
          have hv1' : (v1 : Int) = (nv : Int) - 1 := by omega
          have g0 := fun d os => cell_regrown l0 d os
          have g3 := fun d os => cell_regrown (show w5.cell? ⟨b3, o3 + v1, none⟩ = some (.int .i64 d3) from hc3) d os
          have b0 : (0 : Int) ≤ (nv : Int) - 1 := by omega
          have b1 : (nv : Int) - 1 < (nv : Int) := by omega
          have ht : ((nv : Int) - 1).toNat = v1 := by omega
          have hdd := HDD.out
          have q1 : IntKind.i64.wrap (den * d3) = den * d3 := wrapI_mid (by unfold Mid; omega)
          have q2 : IntKind.i64.wrap ((nv : Int) - 1) = (nv : Int) - 1 := wrapI_mid (by unfold Mid; omega)
          clear hb hd3 hc3 k0 k1 l0 hdd
          by_cases hcase : en ≤ 0
          · have e5 : decide (en ≤ 0) = true := decide_eq_true hcase
            by_cases hcase2 : sm = den * d3
            · have e6 : (sm == den * d3) = true := by simpa using hcase2
              have e7 : ec = 0 := HIff.out.2 ⟨hcase, hcase2⟩
              have e7' : (ec == 0) = true := by simpa using e7
              clear hcase2 e7
              clear hcase
              go_wp2_with fail
              refine wp_region_quiet_below (by kernel_rfl) (by kernel_rfl) ?_
              repeat (go_big_quiet_step (with_reducible exact Calls.regrown_of (HKn.out _)))
              refine wpQuiet_nil ?_
              intro _ hw'
              obtain ⟨⟨dq, osq⟩, hw''⟩ := hw'
              subst hw''
              have HB6 := Lib.hid (HB5.out.trans ((below_regrown w5 dq osq).mono HZ5.out))
              go_wp2_with fail
              go_ret
              exact ⟨rfl, by rw [HS.out]; exact HB6.out⟩
            · have e6 : (sm == den * d3) = false := by simpa using hcase2
              have e7 : ec ≠ 0 := fun h => hcase2 (HIff.out.1 h).2
              have e7' : (ec == 0) = false := by simpa using e7
              clear hcase2 e7
              clear hcase
              go_wp2_with fail
              refine wp_region_quiet_below (by kernel_rfl) (by kernel_rfl) ?_
              repeat (go_big_quiet_step (with_reducible exact Calls.regrown_of (HKn.out _)))
              refine wpQuiet_nil ?_
              intro _ hw'
              obtain ⟨⟨dq, osq⟩, hw''⟩ := hw'
              subst hw''
              have HB6 := Lib.hid (HB5.out.trans ((below_regrown w5 dq osq).mono HZ5.out))
              go_wp2_with fail
              go_ret
              exact ⟨rfl, by rw [HS.out]; exact HB6.out⟩
          · have e5 : decide (en ≤ 0) = false := decide_eq_false hcase
            have e7 : ec ≠ 0 := fun h => hcase (HIff.out.1 h).1
            have e7' : (ec == 0) = false := by simpa using e7
            clear e7
            clear hcase
            go_wp2_with fail
            refine wp_region_quiet_below (by kernel_rfl) (by kernel_rfl) ?_
            repeat (go_big_quiet_step (with_reducible exact Calls.regrown_of (HKn.out _)))
            refine wpQuiet_nil ?_
            intro _ hw'
            obtain ⟨⟨dq, osq⟩, hw''⟩ := hw'
            subst hw''
            have HB6 := Lib.hid (HB5.out.trans ((below_regrown w5 dq osq).mono HZ5.out))
            go_wp2_with fail
            go_ret
            exact ⟨rfl, by rw [HS.out]; exact HB6.out⟩
end Go.Proofs.Ytfmhanpibgmgfaa

/-
  Pays: the walks of slices.Max (by its contract), areOfCore, checkPay, CheckCore. Conditions: the lists can be read.
-/
import Derived.Test.YtfmhanpibgmgfaaPu7
import Derived.Lib.QuietBelow
import Derived.BigQuiet
namespace Go.Proofs.Ytfmhanpibgmgfaa
open Go.RowKit
set_option linter.unusedVariables false

theorem rd_grown {w : World} {A : Option Addr} {xs : List Value} (h : Rd w w.heap.size A xs) (d : Nat) (os : Array Obj) : Rd (Go.Sort.grow (redrawn w d) os) (Go.Sort.grow (redrawn w d) os).heap.size A xs :=
  (h.below (below_regrown w d os) (Nat.le_refl _)).more (below_regrown w d os).size
theorem max_le (F : Nat → Int) (m : Nat) (z : Int) : ∀ k, 0 < k → k ≤ m → (Lib.maxOf ((rowF F m).take k) ≤ z ↔ ∀ g, g < k → F g ≤ z)
  | 0, h, _ => by omega
  | 1, _, hk => by
    rw [Lib.maxOf_one, List.getD_eq_getElem?_getD, rowF_get (by omega)]
    show F 0 ≤ z ↔ _
    constructor
    · intro h g hg
      obtain rfl : g = 0 := by omega
      exact h
    · intro h
      exact h 0 (by omega)
  | k + 2, _, hk => by
    rw [Lib.maxOf_step _ (k + 1) (by omega) (by rw [rowF_len]; omega), List.getD_eq_getElem?_getD, rowF_get (by omega)]
    show max _ (F (k + 1)) ≤ z ↔ _
    have ih := max_le F m z (k + 1) (by omega) (by omega)
    rw [Int.max_le, ih]
    constructor
    · rintro ⟨h1, h2⟩ g hg
      by_cases h : g = k + 1
      · subst h; exact h2
      · exact h1 g (by omega)
    · intro h
      exact ⟨fun g hg => h g (by omega), h (k + 1) (by omega)⟩
theorem core_max (F : Nat → Int) (m : Nat) (h0 : 0 < m) : coreB F m = (decide (F (m - 1) = 0) && decide (Lib.maxOf (rowF F m) ≤ 0)) := by
  rw [Bool.eq_iff_iff, coreB_iff, Bool.and_eq_true, decide_eq_true_iff, decide_eq_true_iff]
  have h := max_le F m 0 m h0 (Nat.le_refl _)
  rw [List.take_of_length_le (by rw [rowF_len]; exact Nat.le_refl _)] at h
  rw [h]
theorem Max_any (g n c : Nat) (F : Nat → Int) (hn : 0 < n) (hl : n ≤ 9223372036854775807) (t : TypeId) (w : World) (h : w.heap[g]? = some (.cells (ints (rowF F n)).toArray t (0, 0))) :
    Calls Try.prog 97 #[.slice (some ⟨g, 0, none⟩) n c] w fun e w' => e = .returned (.int .i64 (Lib.maxOf (rowF F n))) ∧ w = w' := by
  have H := Go.Proofs.Any.slices_Max_int Try.lays113 g 0 n c (rowF F n) w hn (by rw [rowF_len]; exact Nat.le_refl _) hl fun j hj => by
    rw [rowF_len] at hj
    rw [Nat.zero_add, List.getD_eq_getElem?_getD, rowF_get hj]
    exact (blk_cell h).trans (rowF_at hj)
  rw [List.take_of_length_le (by rw [rowF_len]; exact Nat.le_refl _)] at H
  exact H.mono fun e w' h => ⟨h.1, h.2.symm⟩
set_option maxRecDepth 4000 in
set_option maxHeartbeats 1000000 in
theorem areOfCore_any (g n c : Nat) (F : Nat → Int) (hn : 0 < n) (hl : n ≤ 1000000) (t : TypeId) (w : World) (h : w.heap[g]? = some (.cells (ints (rowF F n)).toArray t (0, 0))) :
    Calls Try.prog 76 #[.slice (some ⟨g, 0, none⟩) n c] w fun e w' => e = .returned (.bool (coreB F n)) ∧ w = w' := by
  have HM := Lib.hid (Max_any g n c F hn (by omega) t w h)
  have HW := Lib.hid (whole_any (some ⟨g, 0, none⟩) n c hn (by omega) w)
  have HX := Lib.hid (core_max F n hn)
  have c0 : w.cell? ⟨g, n - 1, none⟩ = some (.int .i64 (F (n - 1))) := (blk_cell h).trans (rowF_at (by omega))
  generalize coreB F n = x at *
  generalize Lib.maxOf (rowF F n) = y at *
  have b0 : (0 : Int) ≤ ((n - 1 : Nat) : Int) := by omega
  have b1 : ((n - 1 : Nat) : Int) < (n : Int) := by omega
  obtain ⟨k, hk⟩ : ∃ k, n - 1 = k := ⟨_, rfl⟩
  rw [hk] at c0 b0 b1 HW HX
  clear h hk
  by_cases h0 : F k = 0
  · rw [h0] at c0
    have HX2 := Lib.hid (show x = decide (y ≤ 0) by rw [HX.out, decide_eq_true h0, Bool.true_and])
    clear h0 HX
    go_enter Try.func76, Try.ntmps76
    go_wp2_with fail
    refine HW.out.mono ?_
    rintro e w' ⟨rfl, rfl⟩
    go_wp2_with fail
    refine HM.out.mono ?_
    rintro e w' ⟨rfl, rfl⟩
    go_wp2_with fail
    go_ret
    exact ⟨by rw [HX2.out] <;> rfl, rfl⟩
  · have e1 : (F k == 0) = false := by simpa using h0
    have HX2 := Lib.hid (show x = false by rw [HX.out, decide_eq_false h0, Bool.false_and])
    generalize F k = z at *
    clear h0 HX
    go_enter Try.func76, Try.ntmps76
    go_wp2_with fail
    refine HW.out.mono ?_
    rintro e w' ⟨rfl, rfl⟩
    go_wp2_with fail
    go_ret
    exact ⟨by rw [HX2.out] <;> rfl, rfl⟩
set_option maxRecDepth 8000 in
set_option maxHeartbeats 4000000 in
theorem checkPay_any (Av : Option Addr) (v : List Int) (cv : Nat) (den : Int) (A : Option Addr) (p : List Int) (c : Nat) (hl : v.length ≤ 9223372036854775807) (hpl : p.length ≤ 9223372036854775807) (w : World) (hrv : Rd w w.heap.size Av (ints v)) (hr : Rd w w.heap.size A (ints p)) :
    Calls Try.prog 75 #[.slice Av v.length cv, .agg #[.int .i64 den, .slice A p.length c]] w fun e w' => e = .returned (.int .i64 (payE v den p)) ∧ Below w.heap.size w w' := by
  obtain ⟨W, hW, h0, h1, hs1, hb0⟩ := one_pt w (.int .i64 den) (.slice A p.length c) 44
  have HW := Lib.hid hW
  have HB := Lib.hid hb0
  have HV := Lib.hid (Validate_any Av v cv hl W ((hrv.below hb0 (Nat.le_refl _)).more (Nat.le_of_lt hs1)))
  have HRp := Lib.hid ((hr.below hb0 (Nat.le_refl _)).more (Nat.le_of_lt hs1))
  have HPl := Lib.hid (fun w => (players_any Av v.length cv hl w).mono (R' := fun e w' => e = .returned (.int .i64 (plZ v.length)) ∧ Below w.heap.size w w') fun e w' h => ⟨h.1, by rw [← h.2]; exact Below.refl _ _⟩)
  have HUp := Lib.hid (fun w h => areUpTo_any A p c 10000000 (by omega) (by omega) hpl w h)
  obtain ⟨b, hbz⟩ : ∃ b, w.heap.size = b := ⟨_, rfl⟩
  have HBz := Lib.hid hbz
  rw [hbz] at h0 h1 HB hs1
  have H0 := Lib.hid h0
  have H1 := Lib.hid h1
  by_cases hv : vdE v = 0
  · obtain ⟨n, pv, hup⟩ := vdE_pv hv
    have hpz := pv.plZ
    have HX := Lib.hid (show payE v den p = if payBad n den p = true then 1 else 0 by unfold payE; rw [if_pos hv, pv.pl])
    rw [hv] at HV
    rw [hpz] at HPl
    have hn5 := pv.five
    generalize v.length = L at *
    obtain ⟨np, hnp⟩ : ∃ np, p.length = np := ⟨_, rfl⟩
    have HNp := Lib.hid hnp
    have HBad := Lib.hid (show payBad n den p = !(decide (1 ≤ den) && decide (den ≤ 1000) && decide (np = n) && upB 10000000 p) by unfold payBad; rw [hnp])
    rw [hnp] at hW HW H1 HUp h1 hpl ⊢
    have HU1 := Lib.hid hs1
    clear hv pv hup hpz hb0 hrv hr hW h0 h1 hnp hbz hl
    by_cases c1 : den < 1
    · have e1 : decide (den < 1) = true := decide_eq_true c1
      have HZ := Lib.hid (show payE v den p = 1 by rw [HX.out, HBad.out, decide_eq_false (show ¬ 1 ≤ den by omega)]; rfl)
      clear c1
      go_enter Try.func75, Try.ntmps75
      go_wp2_with fail
      rw [HW.out, HBz.out]
      refine HV.out.mono ?_
      rintro e w1 ⟨rfl, hb⟩
      have g0 := fun d os => cell_regrown ((hb.cell (p := ⟨b, 0, none⟩) hs1).trans H0.out) d os
      have g1 := fun d os => cell_regrown ((hb.cell (p := ⟨b, 1, none⟩) hs1).trans H1.out) d os
      have HB1 := Lib.hid (HB.out.trans (hb.mono (Nat.le_of_lt hs1)))
      have HB1s := Lib.hid (show b ≤ w1.heap.size by have := hb.size; omega)
      clear hb
      go_wp2_with fail
      refine wp_region_quiet_below (by kernel_rfl) (by kernel_rfl) ?_
      repeat (go_big_quiet_step (with_reducible exact Calls.regrown_of (HPl.out _)))
      refine wpQuiet_nil ?_
      intro _ hw'
      obtain ⟨⟨dq, osq⟩, hw''⟩ := hw'
      subst hw''
      have HB6 := Lib.hid (HB1.out.trans ((below_regrown w1 dq osq).mono HB1s.out))
      go_wp2_with fail
      go_ret
      exact ⟨by rw [HZ.out] <;> rfl, by rw [HBz.out]; exact HB6.out⟩
    · have e1 : decide (den < 1) = false := decide_eq_false c1
      by_cases c2 : 1000 < den
      · have e2 : decide (1000 < den) = true := decide_eq_true c2
        have HZ := Lib.hid (show payE v den p = 1 by rw [HX.out, HBad.out, decide_eq_false (show ¬ den ≤ 1000 by omega), Bool.and_false]; rfl)
        clear c1 c2
        go_enter Try.func75, Try.ntmps75
        go_wp2_with fail
        rw [HW.out, HBz.out]
        refine HV.out.mono ?_
        rintro e w1 ⟨rfl, hb⟩
        have g0 := fun d os => cell_regrown ((hb.cell (p := ⟨b, 0, none⟩) hs1).trans H0.out) d os
        have g1 := fun d os => cell_regrown ((hb.cell (p := ⟨b, 1, none⟩) hs1).trans H1.out) d os
        have HB1 := Lib.hid (HB.out.trans (hb.mono (Nat.le_of_lt hs1)))
        have HB1s := Lib.hid (show b ≤ w1.heap.size by have := hb.size; omega)
        clear hb
        go_wp2_with fail
        refine wp_region_quiet_below (by kernel_rfl) (by kernel_rfl) ?_
        repeat (go_big_quiet_step (with_reducible exact Calls.regrown_of (HPl.out _)))
        refine wpQuiet_nil ?_
        intro _ hw'
        obtain ⟨⟨dq, osq⟩, hw''⟩ := hw'
        subst hw''
        have HB6 := Lib.hid (HB1.out.trans ((below_regrown w1 dq osq).mono HB1s.out))
        go_wp2_with fail
        go_ret
        exact ⟨by rw [HZ.out] <;> rfl, by rw [HBz.out]; exact HB6.out⟩
      · have e2 : decide (1000 < den) = false := decide_eq_false c2
        have HD := Lib.hid (show (decide (1 ≤ den) && decide (den ≤ 1000)) = true by rw [decide_eq_true (show 1 ≤ den by omega), decide_eq_true (show den ≤ 1000 by omega)]; rfl)
        rw [HD.out, Bool.true_and] at HBad
        clear c1 c2
        by_cases c3 : np = n
        · have e3 : ((np : Int) != (n : Int)) = false := by rw [c3]; simp
          have e3' : (np != n) = false := by rw [c3]; simp
          rw [decide_eq_true c3, Bool.true_and] at HBad
          cases hu : upB 10000000 p
          · have HZ := Lib.hid (show payE v den p = 1 by rw [HX.out, HBad.out, hu]; rfl)
            rw [hu] at HUp
            clear c3 hu
            go_enter Try.func75, Try.ntmps75
            go_wp2_with fail
            rw [HW.out, HBz.out]
            refine HV.out.mono ?_
            rintro e w1 ⟨rfl, hb⟩
            have g0 := fun d os => cell_regrown ((hb.cell (p := ⟨b, 0, none⟩) hs1).trans H0.out) d os
            have g1 := fun d os => cell_regrown ((hb.cell (p := ⟨b, 1, none⟩) hs1).trans H1.out) d os
            have HB1 := Lib.hid (HB.out.trans (hb.mono (Nat.le_of_lt hs1)))
            have HB1s := Lib.hid (show b ≤ w1.heap.size by have := hb.size; omega)
            have HRp1 := Lib.hid ((HRp.out.below hb (Nat.le_refl _)).more hb.size)
            clear hb
            go_wp2_with fail
            refine wp_region_quiet_below (by kernel_rfl) (by kernel_rfl) ?_
            repeat (go_big_quiet_step (with_reducible first | exact Calls.regrown_of (HPl.out _) | exact Calls.regrown_of (HUp.out _ (rd_grown HRp1.out _ _))))
            refine wpQuiet_nil ?_
            intro _ hw'
            obtain ⟨⟨dq, osq⟩, hw''⟩ := hw'
            subst hw''
            have HB6 := Lib.hid (HB1.out.trans ((below_regrown w1 dq osq).mono HB1s.out))
            go_wp2_with fail
            go_ret
            exact ⟨by rw [HZ.out] <;> rfl, by rw [HBz.out]; exact HB6.out⟩
          · have HZ := Lib.hid (show payE v den p = 0 by rw [HX.out, HBad.out, hu]; rfl)
            rw [hu] at HUp
            clear c3 hu
            go_enter Try.func75, Try.ntmps75
            go_wp2_with fail
            rw [HW.out, HBz.out]
            refine HV.out.mono ?_
            rintro e w1 ⟨rfl, hb⟩
            have g0 := fun d os => cell_regrown ((hb.cell (p := ⟨b, 0, none⟩) hs1).trans H0.out) d os
            have g1 := fun d os => cell_regrown ((hb.cell (p := ⟨b, 1, none⟩) hs1).trans H1.out) d os
            have HB1 := Lib.hid (HB.out.trans (hb.mono (Nat.le_of_lt hs1)))
            have HB1s := Lib.hid (show b ≤ w1.heap.size by have := hb.size; omega)
            have HRp1 := Lib.hid ((HRp.out.below hb (Nat.le_refl _)).more hb.size)
            clear hb
            go_wp2_with fail
            refine wp_region_quiet_below (by kernel_rfl) (by kernel_rfl) ?_
            repeat (go_big_quiet_step (with_reducible first | exact Calls.regrown_of (HPl.out _) | exact Calls.regrown_of (HUp.out _ (rd_grown HRp1.out _ _))))
            refine wpQuiet_nil ?_
            intro _ hw'
            obtain ⟨⟨dq, osq⟩, hw''⟩ := hw'
            subst hw''
            have HB6 := Lib.hid (HB1.out.trans ((below_regrown w1 dq osq).mono HB1s.out))
            go_wp2_with fail
            go_ret
            exact ⟨by rw [HZ.out] <;> rfl, by rw [HBz.out]; exact HB6.out⟩
        · have e3 : ((np : Int) != (n : Int)) = true := by rw [bne_iff_ne]; omega
          have e3' : (np != n) = true := by rw [bne_iff_ne]; exact c3
          have HZ := Lib.hid (show payE v den p = 1 by rw [HX.out, HBad.out, decide_eq_false c3]; rfl)
          clear c3
          go_enter Try.func75, Try.ntmps75
          go_wp2_with fail
          rw [HW.out, HBz.out]
          refine HV.out.mono ?_
          rintro e w1 ⟨rfl, hb⟩
          have g0 := fun d os => cell_regrown ((hb.cell (p := ⟨b, 0, none⟩) hs1).trans H0.out) d os
          have g1 := fun d os => cell_regrown ((hb.cell (p := ⟨b, 1, none⟩) hs1).trans H1.out) d os
          have HB1 := Lib.hid (HB.out.trans (hb.mono (Nat.le_of_lt hs1)))
          have HB1s := Lib.hid (show b ≤ w1.heap.size by have := hb.size; omega)
          clear hb
          go_wp2_with fail
          refine wp_region_quiet_below (by kernel_rfl) (by kernel_rfl) ?_
          repeat (go_big_quiet_step (with_reducible exact Calls.regrown_of (HPl.out _)))
          refine wpQuiet_nil ?_
          intro _ hw'
          obtain ⟨⟨dq, osq⟩, hw''⟩ := hw'
          subst hw''
          have HB6 := Lib.hid (HB1.out.trans ((below_regrown w1 dq osq).mono HB1s.out))
          go_wp2_with fail
          go_ret
          exact ⟨by rw [HZ.out] <;> rfl, by rw [HBz.out]; exact HB6.out⟩
  · have HX := Lib.hid (show payE v den p = 1 by unfold payE; rw [if_neg hv, vd_bad v hv])
    rw [vd_bad v hv] at HV
    generalize v.length = L at *
    generalize p.length = np at *
    clear hv hb0 hrv hr hW h0 h1 HPl HUp hbz
    go_enter Try.func75, Try.ntmps75
    go_wp2_with fail
    rw [HW.out]
    refine HV.out.mono ?_
    rintro e w1 ⟨rfl, hb⟩
    have HB1 := Lib.hid (HB.out.trans (hb.mono (Nat.le_of_lt hs1)))
    clear hb
    go_wp2_with fail
    go_ret
    exact ⟨by rw [HX.out] <;> rfl, by rw [HBz.out]; exact HB1.out⟩
theorem payE_01 (v : List Int) (den : Int) (p : List Int) : payE v den p = 0 ∨ payE v den p = 1 := by
  unfold payE
  split
  · split
    · exact .inr rfl
    · exact .inl rfl
  · exact vdE_01 v
/-- What a valid pay is. -/
theorem payE_ok {v : List Int} {den : Int} {p : List Int} (h : payE v den p = 0) : ∃ n, Pv v n ∧ upB 1000 v = true ∧ p.length = n ∧ upB 10000000 p = true ∧ 1 ≤ den ∧ den ≤ 1000 := by
  unfold payE at h
  split at h
  · rename_i hv
    obtain ⟨n, pv, hup⟩ := vdE_pv hv
    rw [pv.pl] at h
    split at h
    · cases h
    · rename_i hb
      have hb' : payBad n den p = false := by simpa using hb
      unfold payBad at hb'
      rw [Bool.not_eq_false'] at hb'
      simp only [Bool.and_eq_true, decide_eq_true_eq] at hb'
      exact ⟨n, pv, hup, hb'.1.2, hb'.2, hb'.1.1.1, hb'.1.1.2⟩
  · contradiction
set_option maxRecDepth 8000 in
set_option maxHeartbeats 1000000 in
theorem CheckCore_any (Av : Option Addr) (v : List Int) (cv : Nat) (den : Int) (A : Option Addr) (p : List Int) (c : Nat) (hl : v.length ≤ 9223372036854775807) (hpl : p.length ≤ 9223372036854775807) (w : World) (hrv : Rd w w.heap.size Av (ints v)) (hr : Rd w w.heap.size A (ints p)) :
    Calls Try.prog 43 #[.slice Av v.length cv, .agg #[.int .i64 den, .slice A p.length c]] w fun e w' => e = .returned (.int .i64 (ccE v den p)) ∧ Below w.heap.size w w' := by
  obtain ⟨W, hW, h0, h1, hs1, hb0⟩ := one_pt w (.int .i64 den) (.slice A p.length c) 44
  have HW := Lib.hid hW
  have HB := Lib.hid hb0
  have HRv := Lib.hid ((hrv.below hb0 (Nat.le_refl _)).more (Nat.le_of_lt hs1))
  have HRp := Lib.hid ((hr.below hb0 (Nat.le_refl _)).more (Nat.le_of_lt hs1))
  have HCP := Lib.hid (checkPay_any Av v cv den A p c hl hpl W HRv.out HRp.out)
  obtain ⟨b, hbz⟩ : ∃ b, w.heap.size = b := ⟨_, rfl⟩
  have HBz := Lib.hid hbz
  rw [hbz] at h0 h1 HB hs1
  have H0 := Lib.hid h0
  have H1 := Lib.hid h1
  by_cases hp : payE v den p = 0
  · obtain ⟨n, pv, hup, hpn, hpu, hd1, hd2⟩ := payE_ok hp
    have h32 := pv.le
    have hL0 : 0 < v.length := by rw [pv.len]; exact Nat.two_pow_pos n
    have HE := Lib.hid (fun w h1 h2 => excesses_any Av v cv den A p c h32 hup (by rw [hpn]; exact pv.five) hpu hd1 hd2 w h1 h2)
    have HX := Lib.hid (show ccE v den p = if coreB (excF v den p) v.length = true then 0 else 7 from if_pos hp)
    rw [hp] at HCP
    generalize v.length = L at *
    generalize p.length = np at *
    generalize excF v den p = F at *
    have HC := Lib.hid (fun g w h => areOfCore_any g L L F hL0 (by omega) 3 w h)
    clear hp pv hup hpn hpu hd1 hd2 hb0 hrv hr hW hbz
    obtain ⟨x, hx⟩ : ∃ x, coreB F L = x := ⟨_, rfl⟩
    rw [hx] at HX HC
    clear hx
    go_enter Try.func43, Try.ntmps43
    go_wp2_with fail
    rw [HW.out, HBz.out]
    refine HCP.out.mono ?_
    rintro e w1 ⟨rfl, hb⟩
    have g0 := (hb.cell (p := ⟨b, 0, none⟩) hs1).trans H0.out
    have g1 := (hb.cell (p := ⟨b, 1, none⟩) hs1).trans H1.out
    have HB1 := Lib.hid (HB.out.trans (hb.mono (Nat.le_of_lt hs1)))
    have HB1s := Lib.hid (show b ≤ w1.heap.size by have := hb.size; omega)
    have HE1 := Lib.hid (HE.out w1 ((HRv.out.below hb (Nat.le_refl _)).more hb.size) ((HRp.out.below hb (Nat.le_refl _)).more hb.size))
    clear hb
    go_wp2_with fail
    refine HE1.out.mono ?_
    rintro e w2 ⟨g, rfl, _, hg, hb⟩
    have HB2 := Lib.hid (HB1.out.trans (hb.mono HB1s.out))
    have HC2 := Lib.hid (HC.out g w2 hg)
    clear hb hg g0 g1 h0 h1
    go_wp2_with fail
    refine HC2.out.mono ?_
    rintro e w3 ⟨rfl, rfl⟩
    cases x
    · go_wp2_with fail
      go_ret
      exact ⟨by rw [HX.out] <;> rfl, by rw [HBz.out]; exact HB2.out⟩
    · go_wp2_with fail
      go_ret
      exact ⟨by rw [HX.out] <;> rfl, by rw [HBz.out]; exact HB2.out⟩
  · have h7 := (payE_01 v den p).resolve_left hp
    have HX := Lib.hid (show ccE v den p = 1 by unfold ccE; rw [if_neg hp, h7])
    rw [h7] at HCP
    generalize v.length = L at *
    generalize p.length = np at *
    clear hp h7 hb0 hrv hr hW hbz
    go_enter Try.func43, Try.ntmps43
    go_wp2_with fail
    rw [HW.out, HBz.out]
    refine HCP.out.mono ?_
    rintro e w1 ⟨rfl, hb⟩
    have HB1 := Lib.hid (HB.out.trans (hb.mono (Nat.le_of_lt hs1)))
    clear hb
    go_wp2_with fail
    go_ret
    exact ⟨by rw [HX.out] <;> rfl, by rw [HBz.out]; exact HB1.out⟩
end Go.Proofs.Ytfmhanpibgmgfaa

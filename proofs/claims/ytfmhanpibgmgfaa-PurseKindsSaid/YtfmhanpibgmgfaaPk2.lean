/-
  Kinds of purses: the walks of gainsTogether at both tests, IsSuper, IsConvex of both sides. Conditions: the list can be read.
-/
import Derived.Test.YtfmhanpibgmgfaaPk1
namespace Go.Proofs.Ytfmhanpibgmgfaa
open Go.RowKit
set_option linter.unusedVariables false

theorem kd_no {v : List Int} {q : Nat → Nat → Bool} (h : kiB v q = false) : kdB v q = false := by
  unfold kdB
  split
  · exact h
  · rfl
theorem kd_yes {v : List Int} {q : Nat → Nat → Bool} (hv : vdE v = 0) (h : ∀ g h, g < v.length → h < v.length → gnB v q g h = true) : kdB v q = true := by
  unfold kdB
  rw [if_pos hv]
  exact kiB_iff.2 h
set_option maxRecDepth 8000 in
set_option maxHeartbeats 4000000 in
theorem gainsS_any (Av : Option Addr) (v : List Int) (cv : Nat) (hl : v.length ≤ 9223372036854775807) (w : World) (hrv : Rd w w.heap.size Av (ints v)) :
    Calls Try.prog 72 #[.slice Av v.length cv, .func (.func 73) #[] #[]] w fun e w' => e = .returned (.tuple #[.bool (kdB v qS), .int .i64 (vdE v)]) ∧ Below w.heap.size w w' := by
  have HV := Lib.hid (Validate_any Av v cv hl w hrv)
  have HRv := Lib.hid hrv
  by_cases hv : vdE v = 0
  case neg =>
    have HX := Lib.hid (show kdB v qS = false from if_neg hv)
    rw [HX.out]
    rw [vd_bad v hv] at HV ⊢
    generalize v.length = L at *
    clear hv hrv
    go_enter Try.func72, Try.ntmps72
    go_wp2_with fail
    refine HV.out.mono ?_
    rintro e w1 ⟨rfl, hb⟩
    have HB1 := Lib.hid (hb)
    go_wp2_with fail
    go_ret2
    exact ⟨rfl, HB1.out⟩
  case pos =>
    obtain ⟨n, pv, hup⟩ := vdE_pv hv
    have HUp := Lib.hid hup
    have HZe := Lib.hid pv.zero
    have h32 := pv.le
    have hn5 := pv.five
    obtain ⟨L, hL⟩ : ∃ L, v.length = L := ⟨_, rfl⟩
    have HL := Lib.hid hL
    have HL2 := Lib.hid (show L = 2 ^ n by rw [← hL]; exact pv.len)
    have HNo := Lib.hid (fun (h : kiB v qS = false) => kd_no h)
    have HYes := Lib.hid (fun (h : ∀ g h, g < v.length → h < v.length → gnB v qS g h = true) => kd_yes hv h)
    rw [hL] at HYes
    rw [hv] at HV ⊢
    rw [hL] at HV h32 ⊢
    clear hv pv hup hrv hL hl
    go_enter Try.func72, Try.ntmps72
    go_wp2_with fail
    refine HV.out.mono ?_
    rintro e w1 ⟨rfl, hb⟩
    have HB1 := Lib.hid (hb)
    have HR1 := Lib.hid (HRv.out.below HB1.out (Nat.le_refl _))
    clear hb
    go_wp2_with fail
    go_loopw [16] (fun u wr => ∃ g m : Nat, g ≤ L ∧ u = .int .i64 (g : Int) ∧ (∀ i, i < g → ∀ h, h < L → gnB v qS i h = true) ∧ wr = w1.drewN m) (fun u _ => L - (intOf u).toNat)
    case atStart => exact ⟨0, 0, by omega, rfl, fun i hi => by omega, rfl⟩
    case round =>
      obtain ⟨g, m0, hgL, rfl, hdone, hw0⟩ := hrel
      have HD := Lib.hid hdone
      have HW0 := Lib.hid hw0
      have HRo := Lib.hid (show Rd wr w.heap.size Av (ints v) by rw [hw0]; exact HR1.out)
      clear hdone hw0
      by_cases hlt : g < L
      · obtain ⟨wo, rfl⟩ : ∃ wo : World, wo = wr := ⟨_, rfl⟩
        have c0 : (g : Int) < (L : Int) := by omega
        go_wp2_with fail
        go_loopw [21] (fun u wr => ∃ h m : Nat, h ≤ L ∧ u = .int .i64 (h : Int) ∧ (∀ j, j < h → gnB v qS g j = true) ∧ wr = wo.drewN m) (fun u _ => L - (intOf u).toNat)
        case atStart => exact ⟨0, 0, by omega, rfl, fun j hj => by omega, rfl⟩
        case round =>
          obtain ⟨h, m, hhL, rfl, hdone2, hw⟩ := hrel
          have HWW := Lib.hid hw
          have HD2 := Lib.hid hdone2
          clear hdone2
          by_cases hlt2 : h < L
          · have hRd : Rd wr w.heap.size Av (ints v) := by rw [hw]; exact HRo.out.drewN m
            have hor : g ||| h < L := by rw [HL2.out]; exact Nat.or_lt_two_pow (by rw [← HL2.out]; exact hlt) (by rw [← HL2.out]; exact hlt2)
            have hand : g &&& h < L := Nat.lt_of_le_of_lt Nat.and_le_left hlt
            obtain ⟨b, o, x, hA1, hx, cx⟩ := hRd.int g (by rw [HL.out]; exact hlt)
            subst hA1
            obtain ⟨b2, o2, y, hA2, hy, cy⟩ := hRd.int h (by rw [HL.out]; exact hlt2)
            cases hA2
            obtain ⟨b3, o3, z, hA3, hz, cz⟩ := hRd.int (g ||| h) (by rw [HL.out]; exact hor)
            cases hA3
            obtain ⟨b4, o4, t, hA4, ht, ct⟩ := hRd.int (g &&& h) (by rw [HL.out]; exact hand)
            cases hA4
            have vx := upB_nth HUp.out (by omega) g
            have vy := upB_nth HUp.out (by omega) h
            have vz := upB_nth HUp.out (by omega) (g ||| h)
            have vt := upB_nth HUp.out (by omega) (g &&& h)
            have HG := Lib.hid (show gnB v qS g h = (!qS g h || decide (nth v g + nth v h ≤ nth v (g ||| h) + nth v (g &&& h))) from rfl)
            have HGb := Lib.hid (fun (hb : gnB v qS g h = false) => show kdB v qS = false by
              refine HNo.out ?_
              cases hk : kiB v qS
              · rfl
              · rw [kiB_iff.1 hk g h (by rw [HL.out]; exact hlt) (by rw [HL.out]; exact hlt2)] at hb
                cases hb)
            have hT0 : qS g h = true → t = 0 := fun hq => by
              have h0 : g &&& h = 0 := of_decide_eq_true hq
              have h1 := nth_get ht.out
              rw [h0, HZe.out] at h1
              exact h1.symm
            rw [nth_get hx.out] at vx HG
            rw [nth_get hy.out] at vy HG
            rw [nth_get hz.out] at vz HG
            rw [nth_get ht.out] at vt HG
            have hor2 : bits .or .i64 (g : Int) (h : Int) = ((g ||| h : Nat) : Int) := i64_or_nat g h (by omega) (by omega)
            have hand2 : bits .and .i64 (g : Int) (h : Int) = ((g &&& h : Nat) : Int) := i64_and_nat g h (by omega) (by omega)
            have HAs := Lib.hid (fun w => askS_any g h (by omega) (by omega) w)
            have hq0 : ((((g &&& h : Nat) : Int) == 0) = qS g h) ∧ (((g &&& h) == 0) = qS g h) := by
              unfold qS
              by_cases e : g &&& h = 0
              · rw [decide_eq_true e, e]; exact ⟨rfl, rfl⟩
              · rw [decide_eq_false e]
                exact ⟨by rw [beq_eq_false_iff_ne]; omega, by rw [beq_eq_false_iff_ne]; exact e⟩
            obtain ⟨hq1, hq2⟩ := hq0
            obtain ⟨gb, hgb⟩ : ∃ gb, gnB v qS g h = gb := ⟨_, rfl⟩
            have HGK := Lib.hid hgb
            rw [hgb] at HG HGb
            clear hgb
            generalize qS g h = qq at *
            generalize g ||| h = gh at *
            generalize g &&& h = gd at *
            have a0 : (0 : Int) ≤ (g : Int) := by omega
            have a2 : (0 : Int) ≤ (h : Int) := by omega
            have a3 : (h : Int) < (L : Int) := by omega
            have a4 : (0 : Int) ≤ (gh : Int) := by omega
            have a5 : (gh : Int) < (L : Int) := by omega
            have a6 : (0 : Int) ≤ (gd : Int) := by omega
            have a7 : (gd : Int) < (L : Int) := by omega
            have q1 : IntKind.i64.wrap (z + t) = z + t := wrapI_mid (by unfold Mid; omega)
            have q2 : IntKind.i64.wrap (x + y) = x + y := wrapI_mid (by unfold Mid; omega)
            have HT0 := Lib.hid hT0
            clear hq1 hq2
            clear hx hy hz ht hRd hw vx vy vz vt hor hand hT0
            cases qq
            · have HN := Lib.hid (fun (hb : gb = true) => hb)
              rw [Bool.not_false, Bool.true_or] at HG
              go_wp2_with fail
              go_quiet ((go_at_call 73; first | exact qs (HAs.out _) | exact qs0 (HAs.out _)))
              go_wp2_with fail
              go_roundw
              case rel => exact ⟨h + 1, _, by omega, by go_num, fun j hj => by
                by_cases e : j = h
                · rw [e, HGK.out]; exact HG.out
                · exact HD2.out j (by omega), by rw [HWW.out]; exact World.drewN_drewN _ _ _⟩
              case measure => simp [intOf]; omega
            · have ht0 := HT0.out rfl
              rw [Bool.not_true, Bool.false_or] at HG
              by_cases hc : z + t < x + y
              · have e1 : decide (z + t < x + y) = true := decide_eq_true hc
                have HZ := Lib.hid (HGb.out (by rw [HG.out]; exact decide_eq_false (by omega)))
                clear hc ht0
                go_wp2_with fail
                go_quiet ((go_at_call 73; first | exact qs (HAs.out _) | exact qs0 (HAs.out _)))
                go_wp2_with fail
                go_ret2
                exact ⟨by rw [HZ.out] <;> rfl, by rw [HWW.out, HW0.out]; exact bdN' (bdN' (bdN' HB1.out _) _) _⟩
              · have e1 : decide (z + t < x + y) = false := decide_eq_false hc
                have HGt := Lib.hid (show gb = true by rw [HG.out]; exact decide_eq_true (by omega))
                clear hc ht0
                go_wp2_with fail
                go_quiet ((go_at_call 73; first | exact qs (HAs.out _) | exact qs0 (HAs.out _)))
                go_wp2_with fail
                go_roundw
                case rel => exact ⟨h + 1, _, by omega, by go_num, fun j hj => by
                  by_cases e : j = h
                  · rw [e, HGK.out]; exact HGt.out
                  · exact HD2.out j (by omega), by rw [HWW.out]; exact World.drewN_drewN _ _ _⟩
                case measure => simp [intOf]; omega
          · have hhl : h = L := by omega
            subst hhl
            clear hlt2 hw
            go_wp2_with fail
            go_roundw
            case rel => exact ⟨g + 1, _, by omega, by go_num, fun i hi => by
              by_cases e : i = g
              · rw [e]; exact fun j hj => HD2.out j hj
              · exact HD.out i (by omega), by rw [HWW.out, HW0.out]; exact World.drewN_drewN _ _ _⟩
            case measure => simp [intOf]; omega
      · have hgl : g = L := by omega
        have HZ := Lib.hid (HYes.out (fun i h hi hh => HD.out i (by omega) h hh))
        subst hgl
        clear hlt
        go_wp2_with fail
        go_ret2
        exact ⟨by rw [HZ.out] <;> rfl, by rw [HW0.out]; exact bdN' HB1.out _⟩
set_option maxRecDepth 8000 in
set_option maxHeartbeats 4000000 in
theorem gainsC_any (Av : Option Addr) (v : List Int) (cv : Nat) (hl : v.length ≤ 9223372036854775807) (w : World) (hrv : Rd w w.heap.size Av (ints v)) :
    Calls Try.prog 72 #[.slice Av v.length cv, .func (.func 74) #[] #[]] w fun e w' => e = .returned (.tuple #[.bool (kdB v qC), .int .i64 (vdE v)]) ∧ Below w.heap.size w w' := by
  have HV := Lib.hid (Validate_any Av v cv hl w hrv)
  have HRv := Lib.hid hrv
  by_cases hv : vdE v = 0
  case neg =>
    have HX := Lib.hid (show kdB v qC = false from if_neg hv)
    rw [HX.out]
    rw [vd_bad v hv] at HV ⊢
    generalize v.length = L at *
    clear hv hrv
    go_enter Try.func72, Try.ntmps72
    go_wp2_with fail
    refine HV.out.mono ?_
    rintro e w1 ⟨rfl, hb⟩
    have HB1 := Lib.hid (hb)
    go_wp2_with fail
    go_ret2
    exact ⟨rfl, HB1.out⟩
  case pos =>
    obtain ⟨n, pv, hup⟩ := vdE_pv hv
    have HUp := Lib.hid hup
    have HZe := Lib.hid pv.zero
    have h32 := pv.le
    have hn5 := pv.five
    obtain ⟨L, hL⟩ : ∃ L, v.length = L := ⟨_, rfl⟩
    have HL := Lib.hid hL
    have HL2 := Lib.hid (show L = 2 ^ n by rw [← hL]; exact pv.len)
    have HNo := Lib.hid (fun (h : kiB v qC = false) => kd_no h)
    have HYes := Lib.hid (fun (h : ∀ g h, g < v.length → h < v.length → gnB v qC g h = true) => kd_yes hv h)
    rw [hL] at HYes
    rw [hv] at HV ⊢
    rw [hL] at HV h32 ⊢
    clear hv pv hup hrv hL hl
    go_enter Try.func72, Try.ntmps72
    go_wp2_with fail
    refine HV.out.mono ?_
    rintro e w1 ⟨rfl, hb⟩
    have HB1 := Lib.hid (hb)
    have HR1 := Lib.hid (HRv.out.below HB1.out (Nat.le_refl _))
    clear hb
    go_wp2_with fail
    go_loopw [16] (fun u wr => ∃ g m : Nat, g ≤ L ∧ u = .int .i64 (g : Int) ∧ (∀ i, i < g → ∀ h, h < L → gnB v qC i h = true) ∧ wr = w1.drewN m) (fun u _ => L - (intOf u).toNat)
    case atStart => exact ⟨0, 0, by omega, rfl, fun i hi => by omega, rfl⟩
    case round =>
      obtain ⟨g, m0, hgL, rfl, hdone, hw0⟩ := hrel
      have HD := Lib.hid hdone
      have HW0 := Lib.hid hw0
      have HRo := Lib.hid (show Rd wr w.heap.size Av (ints v) by rw [hw0]; exact HR1.out)
      clear hdone hw0
      by_cases hlt : g < L
      · obtain ⟨wo, rfl⟩ : ∃ wo : World, wo = wr := ⟨_, rfl⟩
        have c0 : (g : Int) < (L : Int) := by omega
        go_wp2_with fail
        go_loopw [21] (fun u wr => ∃ h m : Nat, h ≤ L ∧ u = .int .i64 (h : Int) ∧ (∀ j, j < h → gnB v qC g j = true) ∧ wr = wo.drewN m) (fun u _ => L - (intOf u).toNat)
        case atStart => exact ⟨0, 0, by omega, rfl, fun j hj => by omega, rfl⟩
        case round =>
          obtain ⟨h, m, hhL, rfl, hdone2, hw⟩ := hrel
          have HWW := Lib.hid hw
          have HD2 := Lib.hid hdone2
          clear hdone2
          by_cases hlt2 : h < L
          · have hRd : Rd wr w.heap.size Av (ints v) := by rw [hw]; exact HRo.out.drewN m
            have hor : g ||| h < L := by rw [HL2.out]; exact Nat.or_lt_two_pow (by rw [← HL2.out]; exact hlt) (by rw [← HL2.out]; exact hlt2)
            have hand : g &&& h < L := Nat.lt_of_le_of_lt Nat.and_le_left hlt
            obtain ⟨b, o, x, hA1, hx, cx⟩ := hRd.int g (by rw [HL.out]; exact hlt)
            subst hA1
            obtain ⟨b2, o2, y, hA2, hy, cy⟩ := hRd.int h (by rw [HL.out]; exact hlt2)
            cases hA2
            obtain ⟨b3, o3, z, hA3, hz, cz⟩ := hRd.int (g ||| h) (by rw [HL.out]; exact hor)
            cases hA3
            obtain ⟨b4, o4, t, hA4, ht, ct⟩ := hRd.int (g &&& h) (by rw [HL.out]; exact hand)
            cases hA4
            have vx := upB_nth HUp.out (by omega) g
            have vy := upB_nth HUp.out (by omega) h
            have vz := upB_nth HUp.out (by omega) (g ||| h)
            have vt := upB_nth HUp.out (by omega) (g &&& h)
            have HG := Lib.hid (show gnB v qC g h = (!qC g h || decide (nth v g + nth v h ≤ nth v (g ||| h) + nth v (g &&& h))) from rfl)
            have HGb := Lib.hid (fun (hb : gnB v qC g h = false) => show kdB v qC = false by
              refine HNo.out ?_
              cases hk : kiB v qC
              · rfl
              · rw [kiB_iff.1 hk g h (by rw [HL.out]; exact hlt) (by rw [HL.out]; exact hlt2)] at hb
                cases hb)
            have hT0 : qC g h = true → True := fun _ => trivial
            rw [nth_get hx.out] at vx HG
            rw [nth_get hy.out] at vy HG
            rw [nth_get hz.out] at vz HG
            rw [nth_get ht.out] at vt HG
            have hor2 : bits .or .i64 (g : Int) (h : Int) = ((g ||| h : Nat) : Int) := i64_or_nat g h (by omega) (by omega)
            have hand2 : bits .and .i64 (g : Int) (h : Int) = ((g &&& h : Nat) : Int) := i64_and_nat g h (by omega) (by omega)
            have HAs := Lib.hid (fun w => askC_any g h (by omega) (by omega) w)
            have hq0 : ((((g &&& h : Nat) : Int) == 0) = qS g h) ∧ (((g &&& h) == 0) = qS g h) := by
              unfold qS
              by_cases e : g &&& h = 0
              · rw [decide_eq_true e, e]; exact ⟨rfl, rfl⟩
              · rw [decide_eq_false e]
                exact ⟨by rw [beq_eq_false_iff_ne]; omega, by rw [beq_eq_false_iff_ne]; exact e⟩
            obtain ⟨hq1, hq2⟩ := hq0
            obtain ⟨gb, hgb⟩ : ∃ gb, gnB v qC g h = gb := ⟨_, rfl⟩
            have HGK := Lib.hid hgb
            rw [hgb] at HG HGb
            clear hgb
            generalize qC g h = qq at *
            generalize g ||| h = gh at *
            generalize g &&& h = gd at *
            have a0 : (0 : Int) ≤ (g : Int) := by omega
            have a2 : (0 : Int) ≤ (h : Int) := by omega
            have a3 : (h : Int) < (L : Int) := by omega
            have a4 : (0 : Int) ≤ (gh : Int) := by omega
            have a5 : (gh : Int) < (L : Int) := by omega
            have a6 : (0 : Int) ≤ (gd : Int) := by omega
            have a7 : (gd : Int) < (L : Int) := by omega
            have q1 : IntKind.i64.wrap (z + t) = z + t := wrapI_mid (by unfold Mid; omega)
            have q2 : IntKind.i64.wrap (x + y) = x + y := wrapI_mid (by unfold Mid; omega)
            have HT0 := Lib.hid hT0
            clear hq1 hq2
            clear hx hy hz ht hRd hw vx vy vz vt hor hand hT0
            cases qq
            · have HN := Lib.hid (fun (hb : gb = true) => hb)
              rw [Bool.not_false, Bool.true_or] at HG
              go_wp2_with fail
              go_quiet ((go_at_call 74; first | exact qs (HAs.out _) | exact qs0 (HAs.out _)))
              go_wp2_with fail
              go_roundw
              case rel => exact ⟨h + 1, _, by omega, by go_num, fun j hj => by
                by_cases e : j = h
                · rw [e, HGK.out]; exact HG.out
                · exact HD2.out j (by omega), by rw [HWW.out]; exact World.drewN_drewN _ _ _⟩
              case measure => simp [intOf]; omega
            · have ht0 := HT0.out rfl
              rw [Bool.not_true, Bool.false_or] at HG
              by_cases hc : z + t < x + y
              · have e1 : decide (z + t < x + y) = true := decide_eq_true hc
                have HZ := Lib.hid (HGb.out (by rw [HG.out]; exact decide_eq_false (by omega)))
                clear hc ht0
                go_wp2_with fail
                go_quiet ((go_at_call 74; first | exact qs (HAs.out _) | exact qs0 (HAs.out _)))
                go_wp2_with fail
                go_ret2
                exact ⟨by rw [HZ.out] <;> rfl, by rw [HWW.out, HW0.out]; exact bdN' (bdN' (bdN' HB1.out _) _) _⟩
              · have e1 : decide (z + t < x + y) = false := decide_eq_false hc
                have HGt := Lib.hid (show gb = true by rw [HG.out]; exact decide_eq_true (by omega))
                clear hc ht0
                go_wp2_with fail
                go_quiet ((go_at_call 74; first | exact qs (HAs.out _) | exact qs0 (HAs.out _)))
                go_wp2_with fail
                go_roundw
                case rel => exact ⟨h + 1, _, by omega, by go_num, fun j hj => by
                  by_cases e : j = h
                  · rw [e, HGK.out]; exact HGt.out
                  · exact HD2.out j (by omega), by rw [HWW.out]; exact World.drewN_drewN _ _ _⟩
                case measure => simp [intOf]; omega
          · have hhl : h = L := by omega
            subst hhl
            clear hlt2 hw
            go_wp2_with fail
            go_roundw
            case rel => exact ⟨g + 1, _, by omega, by go_num, fun i hi => by
              by_cases e : i = g
              · rw [e]; exact fun j hj => HD2.out j hj
              · exact HD.out i (by omega), by rw [HWW.out, HW0.out]; exact World.drewN_drewN _ _ _⟩
            case measure => simp [intOf]; omega
      · have hgl : g = L := by omega
        have HZ := Lib.hid (HYes.out (fun i h hi hh => HD.out i (by omega) h hh))
        subst hgl
        clear hlt
        go_wp2_with fail
        go_ret2
        exact ⟨by rw [HZ.out] <;> rfl, by rw [HW0.out]; exact bdN' HB1.out _⟩
set_option maxRecDepth 8000 in
set_option maxHeartbeats 4000000 in
theorem rKindS_any (Av : Option Addr) (v : List Int) (cv : Nat) (hl : v.length ≤ 9223372036854775807) (w : World) (hrv : Rd w w.heap.size Av (ints v)) :
    Calls Try.prog 40 #[.slice Av v.length cv] w fun e w' => e = .returned (.tuple #[.bool (kdB v qS), .int .i64 (vdE v)]) ∧ Below w.heap.size w w' := by
  have HV := Lib.hid (rValidate_any Av v cv hl w hrv)
  have HRv := Lib.hid hrv
  by_cases hv : vdE v = 0
  case neg =>
    have HX := Lib.hid (show kdB v qS = false from if_neg hv)
    rw [HX.out]
    rw [vd_bad v hv] at HV ⊢
    generalize v.length = L at *
    clear hv hrv
    go_enter Try.func40, Try.ntmps40
    go_wp2_with fail
    refine HV.out.mono ?_
    rintro e w1 ⟨rfl, rfl⟩
    have HB1 := Lib.hid (Below.refl w.heap.size w)
    go_wp2_with fail
    go_ret2
    exact ⟨rfl, HB1.out⟩
  case pos =>
    obtain ⟨n, pv, hup⟩ := vdE_pv hv
    have HUp := Lib.hid hup
    have HZe := Lib.hid pv.zero
    have h32 := pv.le
    have hn5 := pv.five
    obtain ⟨L, hL⟩ : ∃ L, v.length = L := ⟨_, rfl⟩
    have HL := Lib.hid hL
    have HL2 := Lib.hid (show L = 2 ^ n by rw [← hL]; exact pv.len)
    have HNo := Lib.hid (fun (h : kiB v qS = false) => kd_no h)
    have HYes := Lib.hid (fun (h : ∀ g h, g < v.length → h < v.length → gnB v qS g h = true) => kd_yes hv h)
    rw [hL] at HYes
    rw [hv] at HV ⊢
    rw [hL] at HV h32 ⊢
    clear hv pv hup hrv hL hl
    go_enter Try.func40, Try.ntmps40
    go_wp2_with fail
    refine HV.out.mono ?_
    rintro e w1 ⟨rfl, rfl⟩
    have HB1 := Lib.hid (Below.refl w.heap.size w)
    have HR1 := Lib.hid (HRv.out.below HB1.out (Nat.le_refl _))
    obtain ⟨w1, hw1⟩ : ∃ w1 : World, w1 = w := ⟨_, rfl⟩
    rw [← hw1] at HR1 ⊢
    have HW1 := Lib.hid hw1
    clear hw1
    go_wp2_with fail
    go_loopw [5] (fun u wr => ∃ g m : Nat, g ≤ L ∧ u = .int .i64 (g : Int) ∧ (∀ i, i < g → ∀ h, h < L → gnB v qS i h = true) ∧ wr = w1.drewN m) (fun u _ => L - (intOf u).toNat)
    case atStart => exact ⟨0, 0, by omega, rfl, fun i hi => by omega, rfl⟩
    case round =>
      obtain ⟨g, m0, hgL, rfl, hdone, hw0⟩ := hrel
      have HD := Lib.hid hdone
      have HW0 := Lib.hid hw0
      have HRo := Lib.hid (show Rd wr w1.heap.size Av (ints v) by rw [hw0]; exact HR1.out)
      clear hdone hw0
      by_cases hlt : g < L
      · obtain ⟨wo, rfl⟩ : ∃ wo : World, wo = wr := ⟨_, rfl⟩
        have c0 : (g : Int) < (L : Int) := by omega
        go_wp2_with fail
        go_loopw [6] (fun u wr => ∃ h m : Nat, h ≤ L ∧ u = .int .i64 (h : Int) ∧ (∀ j, j < h → gnB v qS g j = true) ∧ wr = wo.drewN m) (fun u _ => L - (intOf u).toNat)
        case atStart => exact ⟨0, 0, by omega, rfl, fun j hj => by omega, rfl⟩
        case round =>
          obtain ⟨h, m, hhL, rfl, hdone2, hw⟩ := hrel
          have HWW := Lib.hid hw
          have HD2 := Lib.hid hdone2
          clear hdone2
          by_cases hlt2 : h < L
          · have hRd : Rd wr w1.heap.size Av (ints v) := by rw [hw]; exact HRo.out.drewN m
            have hor : g ||| h < L := by rw [HL2.out]; exact Nat.or_lt_two_pow (by rw [← HL2.out]; exact hlt) (by rw [← HL2.out]; exact hlt2)
            have hand : g &&& h < L := Nat.lt_of_le_of_lt Nat.and_le_left hlt
            obtain ⟨b, o, x, hA1, hx, cx⟩ := hRd.int g (by rw [HL.out]; exact hlt)
            subst hA1
            obtain ⟨b2, o2, y, hA2, hy, cy⟩ := hRd.int h (by rw [HL.out]; exact hlt2)
            cases hA2
            obtain ⟨b3, o3, z, hA3, hz, cz⟩ := hRd.int (g ||| h) (by rw [HL.out]; exact hor)
            cases hA3
            obtain ⟨b4, o4, t, hA4, ht, ct⟩ := hRd.int (g &&& h) (by rw [HL.out]; exact hand)
            cases hA4
            have vx := upB_nth HUp.out (by omega) g
            have vy := upB_nth HUp.out (by omega) h
            have vz := upB_nth HUp.out (by omega) (g ||| h)
            have vt := upB_nth HUp.out (by omega) (g &&& h)
            have HG := Lib.hid (show gnB v qS g h = (!qS g h || decide (nth v g + nth v h ≤ nth v (g ||| h) + nth v (g &&& h))) from rfl)
            have HGb := Lib.hid (fun (hb : gnB v qS g h = false) => show kdB v qS = false by
              refine HNo.out ?_
              cases hk : kiB v qS
              · rfl
              · rw [kiB_iff.1 hk g h (by rw [HL.out]; exact hlt) (by rw [HL.out]; exact hlt2)] at hb
                cases hb)
            have hT0 : qS g h = true → t = 0 := fun hq => by
              have h0 : g &&& h = 0 := of_decide_eq_true hq
              have h1 := nth_get ht.out
              rw [h0, HZe.out] at h1
              exact h1.symm
            rw [nth_get hx.out] at vx HG
            rw [nth_get hy.out] at vy HG
            rw [nth_get hz.out] at vz HG
            rw [nth_get ht.out] at vt HG
            have hor2 : bits .or .i64 (g : Int) (h : Int) = ((g ||| h : Nat) : Int) := i64_or_nat g h (by omega) (by omega)
            have hand2 : bits .and .i64 (g : Int) (h : Int) = ((g &&& h : Nat) : Int) := i64_and_nat g h (by omega) (by omega)
            have HAs := Lib.hid (fun w => askS_any g h (by omega) (by omega) w)
            have hq0 : ((((g &&& h : Nat) : Int) == 0) = qS g h) ∧ (((g &&& h) == 0) = qS g h) := by
              unfold qS
              by_cases e : g &&& h = 0
              · rw [decide_eq_true e, e]; exact ⟨rfl, rfl⟩
              · rw [decide_eq_false e]
                exact ⟨by rw [beq_eq_false_iff_ne]; omega, by rw [beq_eq_false_iff_ne]; exact e⟩
            obtain ⟨hq1, hq2⟩ := hq0
            obtain ⟨gb, hgb⟩ : ∃ gb, gnB v qS g h = gb := ⟨_, rfl⟩
            have HGK := Lib.hid hgb
            rw [hgb] at HG HGb
            clear hgb
            generalize qS g h = qq at *
            generalize g ||| h = gh at *
            generalize g &&& h = gd at *
            have a0 : (0 : Int) ≤ (g : Int) := by omega
            have a2 : (0 : Int) ≤ (h : Int) := by omega
            have a3 : (h : Int) < (L : Int) := by omega
            have a4 : (0 : Int) ≤ (gh : Int) := by omega
            have a5 : (gh : Int) < (L : Int) := by omega
            have a6 : (0 : Int) ≤ (gd : Int) := by omega
            have a7 : (gd : Int) < (L : Int) := by omega
            have q1 : IntKind.i64.wrap (z + t) = z + t := wrapI_mid (by unfold Mid; omega)
            have q2 : IntKind.i64.wrap (x + y) = x + y := wrapI_mid (by unfold Mid; omega)
            have HT0 := Lib.hid hT0
            clear hx hy hz ht hRd hw vx vy vz vt hor hand hT0
            cases qq
            · have HN := Lib.hid (fun (hb : gb = true) => hb)
              rw [Bool.not_false, Bool.true_or] at HG
              go_wp2_with fail
              go_quiet (fail)
              go_wp2_with fail
              go_roundw
              case rel => exact ⟨h + 1, _, by omega, by go_num, fun j hj => by
                by_cases e : j = h
                · rw [e, HGK.out]; exact HG.out
                · exact HD2.out j (by omega), by rw [HWW.out]; exact World.drewN_drewN _ _ _⟩
              case measure => simp [intOf]; omega
            · have ht0 := HT0.out rfl
              rw [Bool.not_true, Bool.false_or] at HG
              by_cases hc : z < x + y
              · have e1 : decide (z < x + y) = true := decide_eq_true hc
                have HZ := Lib.hid (HGb.out (by rw [HG.out]; exact decide_eq_false (by omega)))
                clear hc ht0
                go_wp2_with fail
                go_quiet (fail)
                go_wp2_with fail
                go_ret2
                exact ⟨by rw [HZ.out] <;> rfl, by rw [HWW.out, HW0.out, HW1.out]; exact bdN' (bdN' (bdN' HB1.out _) _) _⟩
              · have e1 : decide (z < x + y) = false := decide_eq_false hc
                have HGt := Lib.hid (show gb = true by rw [HG.out]; exact decide_eq_true (by omega))
                clear hc ht0
                go_wp2_with fail
                go_quiet (fail)
                go_wp2_with fail
                go_roundw
                case rel => exact ⟨h + 1, _, by omega, by go_num, fun j hj => by
                  by_cases e : j = h
                  · rw [e, HGK.out]; exact HGt.out
                  · exact HD2.out j (by omega), by rw [HWW.out]; exact World.drewN_drewN _ _ _⟩
                case measure => simp [intOf]; omega
          · have hhl : h = L := by omega
            subst hhl
            clear hlt2 hw
            go_wp2_with fail
            go_roundw
            case rel => exact ⟨g + 1, _, by omega, by go_num, fun i hi => by
              by_cases e : i = g
              · rw [e]; exact fun j hj => HD2.out j hj
              · exact HD.out i (by omega), by rw [HWW.out, HW0.out]; exact World.drewN_drewN _ _ _⟩
            case measure => simp [intOf]; omega
      · have hgl : g = L := by omega
        have HZ := Lib.hid (HYes.out (fun i h hi hh => HD.out i (by omega) h hh))
        subst hgl
        clear hlt
        go_wp2_with fail
        go_ret2
        exact ⟨by rw [HZ.out] <;> rfl, by rw [HW0.out, HW1.out]; exact bdN' HB1.out _⟩
set_option maxRecDepth 8000 in
set_option maxHeartbeats 4000000 in
theorem rKindC_any (Av : Option Addr) (v : List Int) (cv : Nat) (hl : v.length ≤ 9223372036854775807) (w : World) (hrv : Rd w w.heap.size Av (ints v)) :
    Calls Try.prog 42 #[.slice Av v.length cv] w fun e w' => e = .returned (.tuple #[.bool (kdB v qC), .int .i64 (vdE v)]) ∧ Below w.heap.size w w' := by
  have HV := Lib.hid (rValidate_any Av v cv hl w hrv)
  have HRv := Lib.hid hrv
  by_cases hv : vdE v = 0
  case neg =>
    have HX := Lib.hid (show kdB v qC = false from if_neg hv)
    rw [HX.out]
    rw [vd_bad v hv] at HV ⊢
    generalize v.length = L at *
    clear hv hrv
    go_enter Try.func42, Try.ntmps42
    go_wp2_with fail
    refine HV.out.mono ?_
    rintro e w1 ⟨rfl, rfl⟩
    have HB1 := Lib.hid (Below.refl w.heap.size w)
    go_wp2_with fail
    go_ret2
    exact ⟨rfl, HB1.out⟩
  case pos =>
    obtain ⟨n, pv, hup⟩ := vdE_pv hv
    have HUp := Lib.hid hup
    have HZe := Lib.hid pv.zero
    have h32 := pv.le
    have hn5 := pv.five
    obtain ⟨L, hL⟩ : ∃ L, v.length = L := ⟨_, rfl⟩
    have HL := Lib.hid hL
    have HL2 := Lib.hid (show L = 2 ^ n by rw [← hL]; exact pv.len)
    have HNo := Lib.hid (fun (h : kiB v qC = false) => kd_no h)
    have HYes := Lib.hid (fun (h : ∀ g h, g < v.length → h < v.length → gnB v qC g h = true) => kd_yes hv h)
    rw [hL] at HYes
    rw [hv] at HV ⊢
    rw [hL] at HV h32 ⊢
    clear hv pv hup hrv hL hl
    go_enter Try.func42, Try.ntmps42
    go_wp2_with fail
    refine HV.out.mono ?_
    rintro e w1 ⟨rfl, rfl⟩
    have HB1 := Lib.hid (Below.refl w.heap.size w)
    have HR1 := Lib.hid (HRv.out.below HB1.out (Nat.le_refl _))
    obtain ⟨w1, hw1⟩ : ∃ w1 : World, w1 = w := ⟨_, rfl⟩
    rw [← hw1] at HR1 ⊢
    have HW1 := Lib.hid hw1
    clear hw1
    go_wp2_with fail
    go_loopw [5] (fun u wr => ∃ g m : Nat, g ≤ L ∧ u = .int .i64 (g : Int) ∧ (∀ i, i < g → ∀ h, h < L → gnB v qC i h = true) ∧ wr = w1.drewN m) (fun u _ => L - (intOf u).toNat)
    case atStart => exact ⟨0, 0, by omega, rfl, fun i hi => by omega, rfl⟩
    case round =>
      obtain ⟨g, m0, hgL, rfl, hdone, hw0⟩ := hrel
      have HD := Lib.hid hdone
      have HW0 := Lib.hid hw0
      have HRo := Lib.hid (show Rd wr w1.heap.size Av (ints v) by rw [hw0]; exact HR1.out)
      clear hdone hw0
      by_cases hlt : g < L
      · obtain ⟨wo, rfl⟩ : ∃ wo : World, wo = wr := ⟨_, rfl⟩
        have c0 : (g : Int) < (L : Int) := by omega
        go_wp2_with fail
        go_loopw [6] (fun u wr => ∃ h m : Nat, h ≤ L ∧ u = .int .i64 (h : Int) ∧ (∀ j, j < h → gnB v qC g j = true) ∧ wr = wo.drewN m) (fun u _ => L - (intOf u).toNat)
        case atStart => exact ⟨0, 0, by omega, rfl, fun j hj => by omega, rfl⟩
        case round =>
          obtain ⟨h, m, hhL, rfl, hdone2, hw⟩ := hrel
          have HWW := Lib.hid hw
          have HD2 := Lib.hid hdone2
          clear hdone2
          by_cases hlt2 : h < L
          · have hRd : Rd wr w1.heap.size Av (ints v) := by rw [hw]; exact HRo.out.drewN m
            have hor : g ||| h < L := by rw [HL2.out]; exact Nat.or_lt_two_pow (by rw [← HL2.out]; exact hlt) (by rw [← HL2.out]; exact hlt2)
            have hand : g &&& h < L := Nat.lt_of_le_of_lt Nat.and_le_left hlt
            obtain ⟨b, o, x, hA1, hx, cx⟩ := hRd.int g (by rw [HL.out]; exact hlt)
            subst hA1
            obtain ⟨b2, o2, y, hA2, hy, cy⟩ := hRd.int h (by rw [HL.out]; exact hlt2)
            cases hA2
            obtain ⟨b3, o3, z, hA3, hz, cz⟩ := hRd.int (g ||| h) (by rw [HL.out]; exact hor)
            cases hA3
            obtain ⟨b4, o4, t, hA4, ht, ct⟩ := hRd.int (g &&& h) (by rw [HL.out]; exact hand)
            cases hA4
            have vx := upB_nth HUp.out (by omega) g
            have vy := upB_nth HUp.out (by omega) h
            have vz := upB_nth HUp.out (by omega) (g ||| h)
            have vt := upB_nth HUp.out (by omega) (g &&& h)
            have HG := Lib.hid (show gnB v qC g h = (!qC g h || decide (nth v g + nth v h ≤ nth v (g ||| h) + nth v (g &&& h))) from rfl)
            have HGb := Lib.hid (fun (hb : gnB v qC g h = false) => show kdB v qC = false by
              refine HNo.out ?_
              cases hk : kiB v qC
              · rfl
              · rw [kiB_iff.1 hk g h (by rw [HL.out]; exact hlt) (by rw [HL.out]; exact hlt2)] at hb
                cases hb)
            have hT0 : qC g h = true → True := fun _ => trivial
            rw [nth_get hx.out] at vx HG
            rw [nth_get hy.out] at vy HG
            rw [nth_get hz.out] at vz HG
            rw [nth_get ht.out] at vt HG
            have hor2 : bits .or .i64 (g : Int) (h : Int) = ((g ||| h : Nat) : Int) := i64_or_nat g h (by omega) (by omega)
            have hand2 : bits .and .i64 (g : Int) (h : Int) = ((g &&& h : Nat) : Int) := i64_and_nat g h (by omega) (by omega)
            have HAs := Lib.hid (fun w => askC_any g h (by omega) (by omega) w)
            have hq0 : ((((g &&& h : Nat) : Int) == 0) = qS g h) ∧ (((g &&& h) == 0) = qS g h) := by
              unfold qS
              by_cases e : g &&& h = 0
              · rw [decide_eq_true e, e]; exact ⟨rfl, rfl⟩
              · rw [decide_eq_false e]
                exact ⟨by rw [beq_eq_false_iff_ne]; omega, by rw [beq_eq_false_iff_ne]; exact e⟩
            obtain ⟨hq1, hq2⟩ := hq0
            obtain ⟨gb, hgb⟩ : ∃ gb, gnB v qC g h = gb := ⟨_, rfl⟩
            have HGK := Lib.hid hgb
            rw [hgb] at HG HGb
            clear hgb
            have hqt : qC g h = true := rfl
            generalize qC g h = qq at *
            generalize g ||| h = gh at *
            generalize g &&& h = gd at *
            have a0 : (0 : Int) ≤ (g : Int) := by omega
            have a2 : (0 : Int) ≤ (h : Int) := by omega
            have a3 : (h : Int) < (L : Int) := by omega
            have a4 : (0 : Int) ≤ (gh : Int) := by omega
            have a5 : (gh : Int) < (L : Int) := by omega
            have a6 : (0 : Int) ≤ (gd : Int) := by omega
            have a7 : (gd : Int) < (L : Int) := by omega
            have q1 : IntKind.i64.wrap (z + t) = z + t := wrapI_mid (by unfold Mid; omega)
            have q2 : IntKind.i64.wrap (x + y) = x + y := wrapI_mid (by unfold Mid; omega)
            have HT0 := Lib.hid hT0
            clear hq1 hq2
            clear hx hy hz ht hRd hw vx vy vz vt hor hand hT0
            cases qq
            · cases hqt
            · have ht0 := HT0.out rfl
              rw [Bool.not_true, Bool.false_or] at HG
              by_cases hc : z + t < x + y
              · have e1 : decide (z + t < x + y) = true := decide_eq_true hc
                have HZ := Lib.hid (HGb.out (by rw [HG.out]; exact decide_eq_false (by omega)))
                clear hc ht0
                go_wp2_with fail
                go_quiet (fail)
                go_wp2_with fail
                go_ret2
                exact ⟨by rw [HZ.out] <;> rfl, by rw [HWW.out, HW0.out, HW1.out]; exact bdN' (bdN' (bdN' HB1.out _) _) _⟩
              · have e1 : decide (z + t < x + y) = false := decide_eq_false hc
                have HGt := Lib.hid (show gb = true by rw [HG.out]; exact decide_eq_true (by omega))
                clear hc ht0
                go_wp2_with fail
                go_quiet (fail)
                go_wp2_with fail
                go_roundw
                case rel => exact ⟨h + 1, _, by omega, by go_num, fun j hj => by
                  by_cases e : j = h
                  · rw [e, HGK.out]; exact HGt.out
                  · exact HD2.out j (by omega), by rw [HWW.out]; exact World.drewN_drewN _ _ _⟩
                case measure => simp [intOf]; omega
          · have hhl : h = L := by omega
            subst hhl
            clear hlt2 hw
            go_wp2_with fail
            go_roundw
            case rel => exact ⟨g + 1, _, by omega, by go_num, fun i hi => by
              by_cases e : i = g
              · rw [e]; exact fun j hj => HD2.out j hj
              · exact HD.out i (by omega), by rw [HWW.out, HW0.out]; exact World.drewN_drewN _ _ _⟩
            case measure => simp [intOf]; omega
      · have hgl : g = L := by omega
        have HZ := Lib.hid (HYes.out (fun i h hi hh => HD.out i (by omega) h hh))
        subst hgl
        clear hlt
        go_wp2_with fail
        go_ret2
        exact ⟨by rw [HZ.out] <;> rfl, by rw [HW0.out, HW1.out]; exact bdN' HB1.out _⟩
theorem IsSuper_any (Av : Option Addr) (v : List Int) (cv : Nat) (hl : v.length ≤ 9223372036854775807) (w : World) (hrv : Rd w w.heap.size Av (ints v)) :
    Calls Try.prog 39 #[.slice Av v.length cv] w fun e w' => e = .returned (.tuple #[.bool (kdB v qS), .int .i64 (vdE v)]) ∧ Below w.heap.size w w' := by
  have H := Lib.hid (gainsS_any Av v cv hl w hrv)
  generalize kdB v qS = b at *
  generalize vdE v = E at *
  generalize v.length = m at *
  clear hrv
  go_enter Try.func39, Try.ntmps39
  go_wp2_with fail
  refine H.out.mono ?_
  rintro e w1 ⟨rfl, hb⟩
  have HB := Lib.hid hb
  clear hb
  go_wp2_with fail
  go_ret2
  exact ⟨rfl, HB.out⟩
theorem IsConvex_any (Av : Option Addr) (v : List Int) (cv : Nat) (hl : v.length ≤ 9223372036854775807) (w : World) (hrv : Rd w w.heap.size Av (ints v)) :
    Calls Try.prog 41 #[.slice Av v.length cv] w fun e w' => e = .returned (.tuple #[.bool (kdB v qC), .int .i64 (vdE v)]) ∧ Below w.heap.size w w' := by
  have H := Lib.hid (gainsC_any Av v cv hl w hrv)
  generalize kdB v qC = b at *
  generalize vdE v = E at *
  generalize v.length = m at *
  clear hrv
  go_enter Try.func41, Try.ntmps41
  go_wp2_with fail
  refine H.out.mono ?_
  rintro e w1 ⟨rfl, hb⟩
  have HB := Lib.hid hb
  clear hb
  go_wp2_with fail
  go_ret2
  exact ⟨rfl, HB.out⟩
end Go.Proofs.Ytfmhanpibgmgfaa

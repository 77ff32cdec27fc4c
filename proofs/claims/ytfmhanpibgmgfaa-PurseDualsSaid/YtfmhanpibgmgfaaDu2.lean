/-
  The dual purse in the reference: the walk of Dual. Conditions: the list can be read.
-/
import Derived.Test.YtfmhanpibgmgfaaDu1
import Derived.Test.YtfmhanpibgmgfaaPa2
namespace Go.Proofs.Ytfmhanpibgmgfaa
open Go.RowKit
set_option linter.unusedVariables false

set_option maxRecDepth 8000 in
set_option maxHeartbeats 8000000 in
theorem rDual_any (Av : Option Addr) (v : List Int) (cv : Nat) (hl : v.length ≤ 9223372036854775807) (w : World) (hrv : Rd w w.heap.size Av (ints v)) :
    Calls Try.prog 36 #[.slice Av v.length cv] w fun e w' => ∃ A' c', e = .returned (.tuple #[.slice A' (duLen v) c', .int .i64 (duE v)]) ∧ Rd w' w'.heap.size A' (ints (duL v)) ∧ Below w.heap.size w w' := by
  have HV := Lib.hid (rValidate_any Av v cv hl w hrv)
  have HRv := Lib.hid hrv
  by_cases hv : vdE v = 0
  case neg =>
    have hE : duE v = 1 := by unfold duE; rw [if_neg hv]
    have HX := Lib.hid (du_bad (v := v) (by rw [hE]; decide))
    rw [HX.out.1, HX.out.2, hE]
    rw [vd_bad v hv] at HV
    generalize v.length = L at *
    clear hv hrv hE
    go_enter Try.func36, Try.ntmps36
    go_wp2_with fail
    refine HV.out.mono ?_
    rintro e w1 ⟨rfl, rfl⟩
    go_wp2_with fail
    go_ret2
    exact ⟨none, 0, rfl, Rd.nil_, Below.refl _ _⟩
  case pos =>
    rw [hv] at HV
    obtain ⟨n, pv, hup⟩ := vdE_pv hv
    have h32 := pv.le
    have HUp := Lib.hid hup
    have HE := Lib.hid (show duE v = if upB 1000 (rowF (duF v) v.length) = true then 0 else 3 by unfold duE; rw [if_pos hv])
    have HLn := Lib.hid (show duLen v = if upB 1000 (rowF (duF v) v.length) = true then v.length else 0 by
      unfold duLen
      rw [HE.out]
      cases upB 1000 (rowF (duF v) v.length) <;> rfl)
    have HLl := Lib.hid (show duL v = if upB 1000 (rowF (duF v) v.length) = true then rowF (duF v) v.length else [] by
      unfold duL
      rw [HE.out]
      cases upB 1000 (rowF (duF v) v.length) <;> rfl)
    generalize hzE : duE v = zE at *
    generalize hzN : duLen v = zN at *
    generalize hzL : duL v = zL at *
    have HF := Lib.hid (fun g => show duF v g = nth v (v.length - 1) - nth v (v.length - 1 - g) from rfl)
    generalize duF v = F at *
    obtain ⟨L, hL⟩ : ∃ L, v.length = L := ⟨_, rfl⟩
    have HL := Lib.hid hL
    have hL0 : 0 < L := by rw [← hL, pv.len]; exact Nat.two_pow_pos n
    rw [hL] at HV h32 HE HLn HLl HF ⊢
    have HTo := Lib.hid (fun A c w (h : Rd w w.heap.size A (ints (rowF F L))) => show Calls Try.prog 69 #[.slice A L c] w fun e w' => e = .returned (.tuple #[if upB 1000 (rowF F L) = true then .slice A L c else .slice none 0 0, .int .i64 (if upB 1000 (rowF F L) = true then 0 else 3)]) ∧ w = w' from by
      have := told_any A (rowF F L) c (by rw [rowF_len]; omega) w h
      rw [rowF_len] at this
      exact this)
    obtain ⟨s, hs⟩ : ∃ s, w.heap.size = s := ⟨_, rfl⟩
    have HS := Lib.hid hs
    clear hv pv hup hrv hL hl hzE hzN hzL hs
    go_enter Try.func36, Try.ntmps36
    go_wp2_with fail
    refine HV.out.mono ?_
    rintro e w1 ⟨rfl, rfl⟩
    go_wp2_with fail
    go_loopw [5, 6] (fun vx z wr => ∃ (g : Nat) (vv : Value), g ≤ L ∧ vx = vv ∧ z = .int .i64 (g : Int) ∧ wr.ownsRow s 3 1 vv g (ints (rowF F g)) ∧ Below s w wr) (fun _ z _ => L - (intOf z).toNat)
    case atStart => exact ⟨0, _, by omega, rfl, rfl, World.ownsRow_nil _ _ _ _, Below.refl _ _⟩
    case round =>
      obtain ⟨g, vv, hgL, rfl, rfl, hown, hbl⟩ := hrel
      have HO := Lib.hid hown
      have HBL := Lib.hid hbl
      have hsw : s ≤ wr.heap.size := by rw [← HS.out]; exact hbl.size
      by_cases hlt : g < L
      · obtain ⟨b, o, x, hA1, hx, cx⟩ := (HRv.out.below hbl (by rw [HS.out]; exact Nat.le_refl _)).int (L - 1) (by rw [HL.out]; omega)
        obtain ⟨b2, o2, y, hA2, hy, cy⟩ := (HRv.out.below hbl (by rw [HS.out]; exact Nat.le_refl _)).int (L - 1 - g) (by rw [HL.out]; omega)
        have HAA := Lib.hid hA1
        subst hA1
        cases hA2
        have vx := upB_nth HUp.out (by omega) (L - 1)
        have vy := upB_nth HUp.out (by omega) (L - 1 - g)
        have hF := HF.out g
        rw [nth_get hx.out] at vx hF
        rw [nth_get hy.out] at vy hF
        have HFg := Lib.hid hF
        have a0 : (0 : Int) ≤ (g : Int) := by omega
        have a1 : (g : Int) < (L : Int) := by omega
        have w1' : wrap64 ((L : Int) - 1) = ((L - 1 : Nat) : Int) := by unfold wrap64; omega
        have w2' : IntKind.i64.wrap ((L : Int) - 1) = ((L - 1 : Nat) : Int) := by rw [IntKind.wrap_i64]; omega
        have w3' : wrap64 (((L - 1 : Nat) : Int) - (g : Int)) = ((L - 1 - g : Nat) : Int) := by unfold wrap64; omega
        have w4' : IntKind.i64.wrap (((L - 1 : Nat) : Int) - (g : Int)) = ((L - 1 - g : Nat) : Int) := by rw [IntKind.wrap_i64]; omega
        have a2 : (0 : Int) ≤ ((L - 1 : Nat) : Int) := by omega
        have a3 : ((L - 1 : Nat) : Int) < (L : Int) := by omega
        have a4 : (0 : Int) ≤ ((L - 1 - g : Nat) : Int) := by omega
        have a5 : ((L - 1 - g : Nat) : Int) < (L : Int) := by omega
        have q1 : IntKind.i64.wrap (x - y) = x - y := wrapI_mid (by unfold Mid; omega)
        have q2 : wrap64 (x - y) = x - y := wrap_mid (by unfold Mid; omega)
        have HWb := Lib.hid (show Below wr.heap.size wr (wr.alloc (.cells #[.int .i64 (x - y)] 3)).drew from ((Below.refl wr.heap.size wr).alloc (Nat.le_refl _) _).drew)
        have HWc := Lib.hid (show Below wr.heap.size wr (wr.drew.alloc (.cells #[.int .i64 (x - y)] 3)) from ((Below.refl wr.heap.size wr).drew.alloc (Nat.le_refl _) _))
        have OCb := Lib.hid (own_below HO.out HWb.out)
        have OCc := Lib.hid (own_below HO.out HWc.out)
        clear hown hbl hx hy vx vy hF
        generalize L - 1 - g = k2 at *
        generalize L - 1 = k1 at *
        go_wp2_with fail
        go_region_law (first
          | ((refine step_app eInt0 rfl (.tmp 18) (.tmp 34) rfl rfl (w0 := wr) OCb.out (HWb.out.mono hsw) (Nat.le_trans hsw HWb.out.size) rfl (rd_drew (Rd.one wr (.int .i64 (x - y)) 3 (Nat.lt_succ_self _))) (by simp) (by simp [Value.oneCell']) (g + 1) rfl (by omega) ?_); intro A8 c8 w8 o8 b8 g8 h8; have HB8 := Lib.hid b8; have HO8 := Lib.hid o8; clear o8 b8 g8 h8)
          | ((refine step_app eInt0 rfl (.tmp 18) (.tmp 34) rfl rfl (w0 := wr) OCc.out (HWc.out.mono hsw) (Nat.le_trans hsw HWc.out.size) rfl (Rd.one wr.drew (.int .i64 (x - y)) 3 (Nat.lt_succ_self _)) (by simp) (by simp [Value.oneCell']) (g + 1) rfl (by omega) ?_); intro A8 c8 w8 o8 b8 g8 h8; have HB8 := Lib.hid b8; have HO8 := Lib.hid o8; clear o8 b8 g8 h8))
        all_goals (
          have HO9 := Lib.hid (show w8.ownsRow s 3 1 (.slice A8 (g + 1) c8) (g + 1) (ints (rowF F (g + 1))) by rw [rowF_next, HFg.out]; exact HO8.out)
          have HB9 := Lib.hid (HBL.out.trans HB8.out)
          clear HWb HWc OCb OCc
          go_wp2_with fail
          go_roundw
          (case rel => exact ⟨g + 1, _, by omega, rfl, by go_num, HO9.out, HB9.out⟩)
          (case measure => simp [intOf]; omega))
      · have hgl : g = L := by omega
        subst hgl
        obtain ⟨A7, c7, hv7, _⟩ := own_form HO.out
        subst hv7
        have HR := Lib.hid (Rd.of_own HO.out)
        have HT := Lib.hid (HTo.out A7 c7 wr HR.out)
        generalize upB 1000 (rowF F g) = bb at *
        clear hlt hown hbl
        go_wp2_with fail
        refine HT.out.mono ?_
        rintro e w5 ⟨rfl, rfl⟩
        cases bb
        · have k1 : zE = 3 := HE.out
          have k2 : zN = 0 := HLn.out
          have k3 : zL = [] := HLl.out
          subst k1 k2 k3
          go_wp2_with fail
          go_ret2
          exact ⟨none, 0, rfl, Rd.nil_, by rw [HS.out]; exact HBL.out⟩
        · have k1 : zE = 0 := HE.out
          have k2 : zN = g := HLn.out
          have k3 : zL = rowF F g := HLl.out
          subst k1 k2 k3
          go_wp2_with fail
          go_ret2
          exact ⟨A7, c7, rfl, HR.out, by rw [HS.out]; exact HBL.out⟩
end Go.Proofs.Ytfmhanpibgmgfaa

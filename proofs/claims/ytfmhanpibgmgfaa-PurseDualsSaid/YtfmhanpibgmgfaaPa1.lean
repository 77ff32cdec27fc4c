/-
  Sums of purses: the walks of withinLimit and told, of Add of both sides. Conditions: the lists can be read.
-/
import Derived.Test.YtfmhanpibgmgfaaPum
import Derived.Test.YtfmhanpibgmgfaaRws
namespace Go.Proofs.Ytfmhanpibgmgfaa
open Go.RowKit
set_option linter.unusedVariables false

def adF (v u : List Int) (g : Nat) : Int := nth v g + nth u g
/-- The error of a sum of two purses. -/
def adE (v u : List Int) : Int := if vdE v = 0 then (if vdE u = 0 then (if v.length = u.length then (if upB 1000 (rowF (adF v u) v.length) = true then 0 else 3) else 1) else vdE u) else vdE v
def adLen (v u : List Int) : Nat := if adE v u = 0 then v.length else 0
def adL (v u : List Int) : List Int := if adE v u = 0 then rowF (adF v u) v.length else []
theorem ad_bad {v u : List Int} (h : adE v u ≠ 0) : adLen v u = 0 ∧ adL v u = [] := ⟨if_neg h, if_neg h⟩
set_option maxRecDepth 4000 in
theorem withinLimit_any (A : Option Addr) (l : List Int) (c : Nat) (hl : l.length ≤ 9223372036854775807) (w : World) (hr : Rd w w.heap.size A (ints l)) :
    Calls Try.prog 68 #[.slice A l.length c] w fun e w' => e = .returned (.tuple #[if upB 1000 l = true then .slice A l.length c else .slice none 0 0, .int .i64 (if upB 1000 l = true then 0 else 3)]) ∧ Below w.heap.size w w' := by
  have H := Lib.hid (areUpTo_any A l c 1000 (by omega) (by omega) hl w hr)
  generalize upB 1000 l = b at *
  generalize l.length = m at *
  clear hr
  cases b
  · go_enter Try.func68, Try.ntmps68
    go_wp2_with fail
    refine H.out.mono ?_
    rintro e w1 ⟨rfl, hb⟩
    have HB := Lib.hid hb
    clear hb
    go_wp2_with fail
    go_ret2
    exact ⟨rfl, HB.out⟩
  · go_enter Try.func68, Try.ntmps68
    go_wp2_with fail
    refine H.out.mono ?_
    rintro e w1 ⟨rfl, hb⟩
    have HB := Lib.hid hb
    clear hb
    go_wp2_with fail
    go_ret2
    exact ⟨rfl, HB.out⟩
set_option maxRecDepth 4000 in
theorem told_any (A : Option Addr) (l : List Int) (c : Nat) (hl : l.length ≤ 9223372036854775807) (w : World) (hr : Rd w w.heap.size A (ints l)) :
    Calls Try.prog 69 #[.slice A l.length c] w fun e w' => e = .returned (.tuple #[if upB 1000 l = true then .slice A l.length c else .slice none 0 0, .int .i64 (if upB 1000 l = true then 0 else 3)]) ∧ w = w' := by
  have H := Lib.hid (limited_any A l c 1000 (by omega) (by omega) hl w hr)
  generalize upB 1000 l = b at *
  generalize l.length = m at *
  clear hr
  cases b
  · go_enter Try.func69, Try.ntmps69
    go_wp2_with fail
    refine H.out.mono ?_
    rintro e w1 ⟨rfl, rfl⟩
    go_wp2_with fail
    go_ret2
    exact ⟨rfl, rfl⟩
  · go_enter Try.func69, Try.ntmps69
    go_wp2_with fail
    refine H.out.mono ?_
    rintro e w1 ⟨rfl, rfl⟩
    go_wp2_with fail
    go_ret2
    exact ⟨rfl, rfl⟩
set_option maxRecDepth 8000 in
set_option maxHeartbeats 4000000 in
theorem Add_any (Av : Option Addr) (v : List Int) (cv : Nat) (Au : Option Addr) (u : List Int) (cu : Nat) (hl : v.length ≤ 9223372036854775807) (hlu : u.length ≤ 9223372036854775807) (w : World) (hrv : Rd w w.heap.size Av (ints v)) (hru : Rd w w.heap.size Au (ints u)) :
    Calls Try.prog 33 #[.slice Av v.length cv, .slice Au u.length cu] w fun e w' => ∃ A' c', e = .returned (.tuple #[.slice A' (adLen v u) c', .int .i64 (adE v u)]) ∧ Rd w' w'.heap.size A' (ints (adL v u)) ∧ Below w.heap.size w w' := by
  have HV := Lib.hid (Validate_any Av v cv hl w hrv)
  have HU := Lib.hid (fun w h => Validate_any Au u cu hlu w h)
  have HRv := Lib.hid hrv
  have HRu := Lib.hid hru
  by_cases hv : vdE v = 0
  case neg =>
    have hE : adE v u = 1 := by unfold adE; rw [if_neg hv, vd_bad v hv]
    have HX := Lib.hid (ad_bad (v := v) (u := u) (by rw [hE]; decide))
    rw [HX.out.1, HX.out.2, hE]
    rw [vd_bad v hv] at HV
    generalize v.length = L at *
    generalize u.length = Lu at *
    clear hv hrv hru hE
    go_enter Try.func33, Try.ntmps33
    go_wp2_with fail
    refine HV.out.mono ?_
    rintro e w1 ⟨rfl, hb⟩
    have HB1 := Lib.hid hb
    clear hb
    go_wp2_with fail
    go_ret2
    exact ⟨none, 0, rfl, Rd.nil_, HB1.out⟩
  case pos =>
    rw [hv] at HV
    by_cases hu : vdE u = 0
    case neg =>
      have hE : adE v u = 1 := by unfold adE; rw [if_pos hv, if_neg hu, vd_bad u hu]
      have HX := Lib.hid (ad_bad (v := v) (u := u) (by rw [hE]; decide))
      rw [HX.out.1, HX.out.2, hE]
      rw [vd_bad u hu] at HU
      generalize v.length = L at *
      generalize u.length = Lu at *
      clear hv hu hrv hru hE
      go_enter Try.func33, Try.ntmps33
      go_wp2_with fail
      refine HV.out.mono ?_
      rintro e w1 ⟨rfl, hb⟩
      have HB1 := Lib.hid hb
      have HU1 := Lib.hid (HU.out w1 ((HRu.out.below hb (Nat.le_refl _)).more hb.size))
      clear hb
      go_wp2_with fail
      refine HU1.out.mono ?_
      rintro e w2 ⟨rfl, hb⟩
      have HB2 := Lib.hid (HB1.out.trans (hb.mono HB1.out.size))
      clear hb
      go_wp2_with fail
      go_ret2
      exact ⟨none, 0, rfl, Rd.nil_, HB2.out⟩
    case pos =>
      rw [hu] at HU
      by_cases hlen : v.length = u.length
      case neg =>
        have hE : adE v u = 1 := by unfold adE; rw [if_pos hv, if_pos hu, if_neg hlen]
        have HX := Lib.hid (ad_bad (v := v) (u := u) (by rw [hE]; decide))
        rw [HX.out.1, HX.out.2, hE]
        have e1 : ((v.length : Int) != (u.length : Int)) = true := by rw [bne_iff_ne]; omega
        have e1' : (v.length != u.length) = true := by rw [bne_iff_ne]; exact hlen
        generalize v.length = L at *
        generalize u.length = Lu at *
        clear hv hu hrv hru hE hlen
        go_enter Try.func33, Try.ntmps33
        go_wp2_with fail
        refine HV.out.mono ?_
        rintro e w1 ⟨rfl, hb⟩
        have HB1 := Lib.hid hb
        have HU1 := Lib.hid (HU.out w1 ((HRu.out.below hb (Nat.le_refl _)).more hb.size))
        clear hb
        go_wp2_with fail
        refine HU1.out.mono ?_
        rintro e w2 ⟨rfl, hb⟩
        have HB2 := Lib.hid (HB1.out.trans (hb.mono HB1.out.size))
        clear hb
        go_wp2_with fail
        go_ret2
        exact ⟨none, 0, rfl, Rd.nil_, HB2.out⟩
      case pos =>
        obtain ⟨n, pv, hup⟩ := vdE_pv hv
        obtain ⟨n2, pu, hup2⟩ := vdE_pv hu
        have h32 := pv.le
        have HUp := Lib.hid hup
        have HUp2 := Lib.hid hup2
        have HE := Lib.hid (show adE v u = if upB 1000 (rowF (adF v u) v.length) = true then 0 else 3 by unfold adE; rw [if_pos hv, if_pos hu, if_pos hlen])
        have HLn := Lib.hid (show adLen v u = if upB 1000 (rowF (adF v u) v.length) = true then v.length else 0 by
          unfold adLen
          rw [HE.out]
          cases upB 1000 (rowF (adF v u) v.length) <;> rfl)
        have HLl := Lib.hid (show adL v u = if upB 1000 (rowF (adF v u) v.length) = true then rowF (adF v u) v.length else [] by
          unfold adL
          rw [HE.out]
          cases upB 1000 (rowF (adF v u) v.length) <;> rfl)
        generalize hzE : adE v u = zE at *
        generalize hzN : adLen v u = zN at *
        generalize hzL : adL v u = zL at *
        have HF := Lib.hid (fun g => show adF v u g = nth v g + nth u g from rfl)
        generalize adF v u = F at *
        obtain ⟨L, hL⟩ : ∃ L, v.length = L := ⟨_, rfl⟩
        have HL := Lib.hid hL
        have HLu := Lib.hid (show u.length = L by rw [← hlen, hL])
        rw [← hlen] at HU ⊢
        rw [hL] at HV HU h32 HE HLn HLl ⊢
        have hL0 : 0 < L := by rw [← hL, pv.len]; exact Nat.two_pow_pos n
        have e1 : ((L : Int) != (L : Int)) = false := by simp
        have HWl := Lib.hid (fun A c w (h : Rd w w.heap.size A (ints (rowF F L))) => show Calls Try.prog 68 #[.slice A L c] w fun e w' => e = .returned (.tuple #[if upB 1000 (rowF F L) = true then .slice A L c else .slice none 0 0, .int .i64 (if upB 1000 (rowF F L) = true then 0 else 3)]) ∧ Below w.heap.size w w' from by
          have := withinLimit_any A (rowF F L) c (by rw [rowF_len]; omega) w h
          rw [rowF_len] at this
          exact this)
        obtain ⟨i0, hi0, hz0, hz1, hz2⟩ := info_parts eInt0.hi
        clear hv hu pv hup pu hup2 hrv hru hL hlen hl hlu hzE hzN hzL
        go_enter Try.func33, Try.ntmps33
        go_wp2_with fail
        refine HV.out.mono ?_
        rintro e w1 ⟨rfl, hb⟩
        have HB1 := Lib.hid hb
        have HU1 := Lib.hid (HU.out w1 ((HRu.out.below hb (Nat.le_refl _)).more hb.size))
        clear hb
        go_wp2_with fail
        refine HU1.out.mono ?_
        rintro e w2 ⟨rfl, hb⟩
        have HB2 := Lib.hid (HB1.out.trans (hb.mono HB1.out.size))
        have HV2 := Lib.hid (HRv.out.below HB2.out (Nat.le_refl _))
        have HU2 := Lib.hid (HRu.out.below HB2.out (Nat.le_refl _))
        obtain ⟨s, hs⟩ : ∃ s, w2.heap.size = s := ⟨_, rfl⟩
        have HS := Lib.hid hs
        have hws : w.heap.size ≤ s := by rw [← hs]; exact HB2.out.size
        clear hb hs
        go_wp2_with ((at_make; refine wpList_make_full _ rfl (.tmp 26) (.tmp 26) 22 rfl w2.heap.size 3 i0 (.int .i64 0) 1 Try.underlying22 hi0 hz0 hz1 .i64 .i64 _ _ L rfl rfl rfl rfl (by rw [hz2]; omega) (by simp only [maxLen]; omega) (Nat.le_refl _) ?_; intro w3 hown hgr; have MD := Lib.hid (made_rowF hown hgr); clear hown hgr))
        rw [HS.out] at MD ⊢
        go_loopw [30] (fun z wr => ∃ g : Nat, g ≤ L ∧ z = .int .i64 (g : Int) ∧ wr.heap[s]? = some (.cells (ints (rowF (sofar F g) L)).toArray 3 (0, 0)) ∧ Below s w2 wr) (fun z _ => L - (intOf z).toNat)
        case atStart => exact ⟨0, by omega, rfl, by rw [MD.out.2, rowF_congr (F := sofar F 0) (G := fun _ => 0) (fun p _ => if_neg (by omega))], MD.out.1⟩
        case round =>
          obtain ⟨g, hgL, rfl, hg, hbl⟩ := hrel
          by_cases hlt : g < L
          · obtain ⟨b, o, x, hA1, hx, cx⟩ := (HV2.out.below hbl hws).int g (by rw [HL.out]; exact hlt)
            subst hA1
            obtain ⟨b2, o2, y, hA2, hy, cy⟩ := (HU2.out.below hbl hws).int g (by rw [HLu.out]; exact hlt)
            subst hA2
            have vx := upB_nth HUp.out (by omega) g
            have vy := upB_nth HUp2.out (by omega) g
            have hF := HF.out g
            rw [nth_get hx.out] at vx hF
            rw [nth_get hy.out] at vy hF
            have c0 : wr.cell? ⟨s, g, none⟩ = some (.int .i64 (sofar F g g)) := (blk_cell hg).trans (rowF_at hlt)
            have f0 := blk_free hg g
            have a0 : (0 : Int) ≤ (g : Int) := by omega
            have a1 : (g : Int) < (L : Int) := by omega
            have q1 : IntKind.i64.wrap (x + y) = x + y := wrapI_mid (by unfold Mid; omega)
            have H1 := Lib.hid (show (wr.setCell ⟨s, g, none⟩ (.int .i64 (x + y))).drew.heap[s]? = some (.cells (ints (rowF (sofar F (g + 1)) L)).toArray 3 (0, 0)) by
              show (wr.setCell ⟨s, g, none⟩ (.int .i64 (x + y))).heap[s]? = _
              rw [blk_set hg g _, rowF_set (G := sofar F (g + 1)) (by unfold sofar; rw [if_pos (Nat.lt_succ_self g), hF]) (fun p hp => by unfold sofar; split <;> split <;> first | rfl | omega)])
            have HBZ := Lib.hid ((hbl.setCell (p := ⟨s, g, none⟩) (Nat.le_refl _) (.int .i64 (x + y))).drew)
            clear hg hbl hx hy vx vy hF
            go_wp2_with fail
            go_region
            go_wp2_with fail
            go_roundw
            case rel => exact ⟨g + 1, by omega, by go_num, H1.out, HBZ.out⟩
            case measure => simp [intOf]; omega
          · have hgl : g = L := by omega
            subst hgl
            rw [rowF_congr (F := sofar F g) (G := F) fun p hp => if_pos hp] at hg
            have HR := Lib.hid (Rd.of_block hg)
            have HW := Lib.hid (HWl.out (some ⟨s, 0, none⟩) g wr HR.out)
            have HBL := Lib.hid (HB2.out.trans (hbl.mono hws))
            generalize upB 1000 (rowF F g) = b at *
            clear hlt hg hbl
            go_wp2_with fail
            refine HW.out.mono ?_
            rintro e w5 ⟨rfl, hb⟩
            have HB5 := Lib.hid (HBL.out.trans (hb.mono HBL.out.size))
            have HR5 := Lib.hid ((HR.out.below hb (Nat.le_refl _)).more hb.size)
            clear hb
            cases b
            · have k1 : zE = 3 := HE.out
              have k2 : zN = 0 := HLn.out
              have k3 : zL = [] := HLl.out
              subst k1 k2 k3
              go_wp2_with fail
              go_ret2
              exact ⟨none, 0, rfl, Rd.nil_, HB5.out⟩
            · have k1 : zE = 0 := HE.out
              have k2 : zN = g := HLn.out
              have k3 : zL = rowF F g := HLl.out
              subst k1 k2 k3
              go_wp2_with fail
              go_ret2
              exact ⟨some ⟨s, 0, none⟩, _, rfl, HR5.out, HB5.out⟩
end Go.Proofs.Ytfmhanpibgmgfaa

/-
  The dual purse: Dual of the program. Conditions: the list can be read.
-/
import Derived.Test.YtfmhanpibgmgfaaPd3
namespace Go.Proofs.Ytfmhanpibgmgfaa
open Go.RowKit
set_option linter.unusedVariables false

def duF (v : List Int) (g : Nat) : Int := nth v (v.length - 1) - nth v (v.length - 1 - g)
def duE (v : List Int) : Int := if vdE v = 0 then (if upB 1000 (rowF (duF v) v.length) = true then 0 else 3) else 1
def duLen (v : List Int) : Nat := if duE v = 0 then v.length else 0
def duL (v : List Int) : List Int := if duE v = 0 then rowF (duF v) v.length else []
theorem du_bad {v : List Int} (h : duE v ≠ 0) : duLen v = 0 ∧ duL v = [] := ⟨if_neg h, if_neg h⟩
theorem xor_small : ∀ n : Fin 6, ∀ g : Fin 32, g.val < 2 ^ n.val → (2 ^ n.val - 1) ^^^ g.val = 2 ^ n.val - 1 - g.val := by decide +kernel
theorem xor_whole {n g : Nat} (hn : n ≤ 5) (hg : g < 2 ^ n) : (2 ^ n - 1) ^^^ g = 2 ^ n - 1 - g :=
  xor_small ⟨n, by omega⟩ ⟨g, Nat.lt_of_lt_of_le hg (show 2 ^ n ≤ 2 ^ 5 from Nat.pow_le_pow_right (by omega) hn)⟩ hg
set_option maxRecDepth 8000 in
set_option maxHeartbeats 4000000 in
theorem Dual_any (Av : Option Addr) (v : List Int) (cv : Nat) (hl : v.length ≤ 9223372036854775807) (w : World) (hrv : Rd w w.heap.size Av (ints v)) :
    Calls Try.prog 35 #[.slice Av v.length cv] w fun e w' => ∃ A' c', e = .returned (.tuple #[.slice A' (duLen v) c', .int .i64 (duE v)]) ∧ Rd w' w'.heap.size A' (ints (duL v)) ∧ Below w.heap.size w w' := by
  have HV := Lib.hid (Validate_any Av v cv hl w hrv)
  have HRv := Lib.hid hrv
  by_cases hv : vdE v = 0
  case neg =>
    have hE : duE v = 1 := by unfold duE; rw [if_neg hv]
    have HX := Lib.hid (du_bad (v := v) (by rw [hE]; decide))
    rw [HX.out.1, HX.out.2, hE]
    rw [vd_bad v hv] at HV
    generalize v.length = L at *
    clear hv hrv hE
    go_enter Try.func35, Try.ntmps35
    go_wp2_with fail
    refine HV.out.mono ?_
    rintro e w1 ⟨rfl, hb⟩
    have HB1 := Lib.hid hb
    clear hb
    go_wp2_with fail
    go_ret2
    exact ⟨none, 0, rfl, Rd.nil_, HB1.out⟩
  case pos =>
    rw [hv] at HV
    obtain ⟨n, pv, hup⟩ := vdE_pv hv
    have h32 := pv.le
    have HUp := Lib.hid hup
    have HE := Lib.hid (show duE v = if upB 1000 (rowF (duF v) v.length) = true then 0 else 3 by unfold duE; rw [if_pos hv])
    have HLn := Lib.hid (show duLen v = if upB 1000 (rowF (duF v) v.length) = true then v.length else 0 by
      unfold duLen
      rw [HE.out]
      cases upB 1000 (rowF (duF v) v.length) <;> rfl)
    have HLl := Lib.hid (show duL v = if upB 1000 (rowF (duF v) v.length) = true then rowF (duF v) v.length else [] by
      unfold duL
      rw [HE.out]
      cases upB 1000 (rowF (duF v) v.length) <;> rfl)
    generalize hzE : duE v = zE at *
    generalize hzN : duLen v = zN at *
    generalize hzL : duL v = zL at *
    have HF := Lib.hid (fun g => show duF v g = nth v (v.length - 1) - nth v (v.length - 1 - g) from rfl)
    have HXr := Lib.hid (fun g (hg : g < v.length) => show (v.length - 1) ^^^ g = v.length - 1 - g by
      rw [pv.len] at hg ⊢
      exact xor_whole pv.five hg)
    generalize duF v = F at *
    obtain ⟨L, hL⟩ : ∃ L, v.length = L := ⟨_, rfl⟩
    have HL := Lib.hid hL
    have hL0 : 0 < L := by rw [← hL, pv.len]; exact Nat.two_pow_pos n
    rw [hL] at HV h32 HE HLn HLl HF HXr ⊢
    have HWl := Lib.hid (fun A c w (h : Rd w w.heap.size A (ints (rowF F L))) => show Calls Try.prog 68 #[.slice A L c] w fun e w' => e = .returned (.tuple #[if upB 1000 (rowF F L) = true then .slice A L c else .slice none 0 0, .int .i64 (if upB 1000 (rowF F L) = true then 0 else 3)]) ∧ Below w.heap.size w w' from by
      have := withinLimit_any A (rowF F L) c (by rw [rowF_len]; omega) w h
      rw [rowF_len] at this
      exact this)
    have HWh := Lib.hid (fun w => whole_any Av L cv (by omega) (by omega) w)
    obtain ⟨i0, hi0, hz0, hz1, hz2⟩ := info_parts eInt0.hi
    clear hv pv hup hrv hL hl hzE hzN hzL
    go_enter Try.func35, Try.ntmps35
    go_wp2_with fail
    refine HV.out.mono ?_
    rintro e w2 ⟨rfl, hb⟩
    have HB2 := Lib.hid hb
    have HV2 := Lib.hid (HRv.out.below HB2.out (Nat.le_refl _))
    obtain ⟨s, hs⟩ : ∃ s, w2.heap.size = s := ⟨_, rfl⟩
    have HS := Lib.hid hs
    have hws : w.heap.size ≤ s := by rw [← hs]; exact HB2.out.size
    clear hb hs
    go_wp2_with ((at_make; refine wpList_make_full _ rfl (.tmp 13) (.tmp 13) 22 rfl w2.heap.size 3 i0 (.int .i64 0) 1 Try.underlying22 hi0 hz0 hz1 .i64 .i64 _ _ L rfl rfl rfl rfl (by rw [hz2]; omega) (by simp only [maxLen]; omega) (Nat.le_refl _) ?_; intro w3 hown hgr; have MD := Lib.hid (made_rowF hown hgr); clear hown hgr))
    rw [HS.out] at MD ⊢
    go_loopw [17] (fun z wr => ∃ g : Nat, g ≤ L ∧ z = .int .i64 (g : Int) ∧ wr.heap[s]? = some (.cells (ints (rowF (sofar F g) L)).toArray 3 (0, 0)) ∧ Below s w2 wr) (fun z _ => L - (intOf z).toNat)
    case atStart => exact ⟨0, by omega, rfl, by rw [MD.out.2, rowF_congr (F := sofar F 0) (G := fun _ => 0) (fun p _ => if_neg (by omega))], MD.out.1⟩
    case round =>
      obtain ⟨g, hgL, rfl, hg, hbl⟩ := hrel
      by_cases hlt : g < L
      · obtain ⟨b, o, x, hA1, hx, cx⟩ := (HV2.out.below hbl hws).int (L - 1) (by rw [HL.out]; omega)
        obtain ⟨b2, o2, y, hA2, hy, cy⟩ := (HV2.out.below hbl hws).int (L - 1 - g) (by rw [HL.out]; omega)
        have HAA := Lib.hid hA1
        subst hA1
        cases hA2
        have vx := upB_nth HUp.out (by omega) (L - 1)
        have vy := upB_nth HUp.out (by omega) (L - 1 - g)
        have hF := HF.out g
        rw [nth_get hx.out] at vx hF
        rw [nth_get hy.out] at vy hF
        have hxr := HXr.out g hlt
        have hxor : bits .xor .i64 ((L - 1 : Nat) : Int) (g : Int) = ((L - 1 - g : Nat) : Int) := by rw [i64_xor_nat _ _ (by omega) (by omega), hxr]
        have c0 : wr.cell? ⟨s, g, none⟩ = some (.int .i64 (sofar F g g)) := (blk_cell hg).trans (rowF_at hlt)
        have f0 := blk_free hg g
        have a0 : (0 : Int) ≤ (g : Int) := by omega
        have a1 : (g : Int) < (L : Int) := by omega
        have a2 : (0 : Int) ≤ ((L - 1 : Nat) : Int) := by omega
        have a3 : ((L - 1 : Nat) : Int) < (L : Int) := by omega
        have a4 : (0 : Int) ≤ ((L - 1 - g : Nat) : Int) := by omega
        have a5 : ((L - 1 - g : Nat) : Int) < (L : Int) := by omega
        have q1 : IntKind.i64.wrap (x - y) = x - y := wrapI_mid (by unfold Mid; omega)
        have H1 := Lib.hid (show (wr.setCell ⟨s, g, none⟩ (.int .i64 (x - y))).drew.heap[s]? = some (.cells (ints (rowF (sofar F (g + 1)) L)).toArray 3 (0, 0)) by
          show (wr.setCell ⟨s, g, none⟩ (.int .i64 (x - y))).heap[s]? = _
          rw [blk_set hg g _, rowF_set (G := sofar F (g + 1)) (by unfold sofar; rw [if_pos (Nat.lt_succ_self g), hF]) (fun p hp => by unfold sofar; split <;> split <;> first | rfl | omega)])
        have HBZ := Lib.hid ((hbl.setCell (p := ⟨s, g, none⟩) (Nat.le_refl _) (.int .i64 (x - y))).drew)
        clear hg hbl hx hy vx vy hF hxr
        generalize L - 1 - g = k2 at *
        generalize L - 1 = k1 at *
        go_wp2_with fail
        go_region_law (first | (go_simp; go_at_call 70; refine (HWh.out _).mono ?_; rintro e w9 ⟨rfl, rfl⟩))
        all_goals (
          go_wp2_with fail
          go_roundw
          (case rel => exact ⟨g + 1, by omega, by go_num, H1.out, HBZ.out⟩)
          (case measure => simp [intOf]; omega))
      · have hgl : g = L := by omega
        subst hgl
        rw [rowF_congr (F := sofar F g) (G := F) fun p hp => if_pos hp] at hg
        have HR := Lib.hid (Rd.of_block hg)
        have HW := Lib.hid (HWl.out (some ⟨s, 0, none⟩) g wr HR.out)
        have HBL := Lib.hid (HB2.out.trans (hbl.mono hws))
        generalize upB 1000 (rowF F g) = b at *
        clear hlt hg hbl
        go_wp2_with fail
        refine HW.out.mono ?_
        rintro e w5 ⟨rfl, hb⟩
        have HB5 := Lib.hid (HBL.out.trans (hb.mono HBL.out.size))
        have HR5 := Lib.hid ((HR.out.below hb (Nat.le_refl _)).more hb.size)
        clear hb
        cases b
        · have k1 : zE = 3 := HE.out
          have k2 : zN = 0 := HLn.out
          have k3 : zL = [] := HLl.out
          subst k1 k2 k3
          go_wp2_with fail
          go_ret2
          exact ⟨none, 0, rfl, Rd.nil_, HB5.out⟩
        · have k1 : zE = 0 := HE.out
          have k2 : zN = g := HLn.out
          have k3 : zL = rowF F g := HLl.out
          subst k1 k2 k3
          go_wp2_with fail
          go_ret2
          exact ⟨_, _, rfl, HR5.out, HB5.out⟩
end Go.Proofs.Ytfmhanpibgmgfaa

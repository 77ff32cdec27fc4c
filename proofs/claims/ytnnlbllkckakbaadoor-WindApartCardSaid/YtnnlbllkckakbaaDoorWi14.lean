/-
  The walks of roseOK, sum, Sum of the reference. No condition.
-/
import Derived.Test.YtnnlbllkckakbaaDoorWi13
namespace Go.Proofs.YtnnlbllkckakbaaDoor
open Go.RowKit
set_option linter.unusedVariables false

def rosE (L : List Int) : Int := if roseB L then 0 else 1
theorem rosE_yes {L : List Int} (h : roseB L = true) : rosE L = 0 := by unfold rosE; rw [if_pos h]
theorem rosE_no {L : List Int} (h : roseB L = false) : rosE L = 1 := by unfold rosE; rw [if_neg (by rw [h]; decide)]
set_option maxRecDepth 4000 in
theorem roseOK_any (L : List Int) (w : World) (hL : Rose L) : Calls Tryd.prog 90 #[.agg (rv L)] w fun e w' => e = .returned (.int .i64 (rosE L)) ∧ Below w.heap.size w w' := by
  obtain ⟨W, hW, hblk, hs, hb0⟩ := one_blk w (rv L) 61
  have B := Lib.hid hb0
  have BK := Lib.hid hblk
  have HA0 := Lib.hid (fun p (hp : p < 32) => rv_at hL hp)
  have HB := Lib.hid (fun p (hp : p < 32) h => roseB_bad hL hp h)
  have HO := Lib.hid (fun h => roseB_ok hL h)
  clear hb0 hblk hs
  go_enter Tryd.func90, Tryd.ntmps90
  go_wp2_with fail
  clear hW
  go_loop [3] (fun i => ∃ k : Nat, k ≤ 32 ∧ i = .int .i64 k ∧ ∀ j, j < k → okR (L.getD j 0) = true) (fun i => 32 - (intOf i).toNat)
  case atStart => exact ⟨0, by omega, rfl, fun j hj => by omega⟩
  case round =>
    obtain ⟨k, hk, rfl, hall⟩ := hrel
    have HA := Lib.hid hall
    clear hall
    by_cases hlt : k < 32
    · have hc : W.cell? ⟨w.heap.size, k, none⟩ = some (.int .i64 (L.getD k 0)) := by rw [blk_cell BK.out]; exact HA0.out k hlt
      have HBk := Lib.hid (HB.out k hlt)
      have HN := Lib.hid (show okR (L.getD k 0) = true → ∀ j, j < k + 1 → okR (L.getD j 0) = true from fun h j hj => by
        rcases Nat.lt_or_ge j k with h1 | h1
        · exact HA.out j h1
        · obtain rfl : j = k := by omega
          exact h)
      generalize L.getD k 0 = d at *
      by_cases h1 : d < 0
      · have e1 : decide (d < 0) = true := by simpa using h1
        have HE := Lib.hid (rosE_no (HBk.out (by unfold okR; rw [decide_eq_false (by omega)]; rfl)))
        clear h1
        go_wp2_with fail
        go_ret
        exact ⟨by rw [HE.out]; rfl, B.out⟩
      · have e1 : decide (d < 0) = false := by simpa using h1
        by_cases h2 : 10000 < d
        · have e2 : decide (10000 < d) = true := by simpa using h2
          have HE := Lib.hid (rosE_no (HBk.out (by unfold okR; rw [decide_eq_false (show ¬ d ≤ 10000 by omega), Bool.and_false])))
          clear h1 h2
          go_wp2_with fail
          go_ret
          exact ⟨by rw [HE.out]; rfl, B.out⟩
        · have e2 : decide (10000 < d) = false := by simpa using h2
          have HE := Lib.hid (HN.out (okR_iff.2 ⟨by omega, by omega⟩))
          clear h1 h2
          go_wp2_with fail
          go_round
          case rel => exact ⟨k + 1, by omega, by go_num, HE.out⟩
          case measure => simp [intOf]; omega
    · obtain rfl : k = 32 := by omega
      have HE := Lib.hid (rosE_yes (HO.out HA.out))
      go_wp2_with fail
      go_ret
      exact ⟨by rw [HE.out]; rfl, B.out⟩
set_option maxRecDepth 4000 in
theorem rsum_any (L : List Int) (a : Pt) (w : World) (ha : arcE a = 0) (hL : Rose L) (hb : roseB L = true) :
    Calls Tryd.prog 91 #[.agg (rv L), a.v] w fun e w' => e = .returned (.int .i64 (roS a L)) ∧ Below w.heap.size w w' := by
  obtain ⟨W1, hW1, hblk1, hs1, hb1⟩ := one_blk w (rv L) 61
  obtain ⟨W2, hW2, h0, h1, hs2, hb2⟩ := one_pt W1 (.int .i64 a.x) (.int .i64 a.y) 23
  have BK := Lib.hid ((hb2.block _ hs1).trans hblk1)
  have F := Lib.hid (And.intro h0 (And.intro h1 hs2))
  have B2 := Lib.hid (hb1.trans (hb2.mono hb1.size))
  have HA0 := Lib.hid (fun p (hp : p < 32) => rv_at hL hp)
  have HH := Lib.hid (fun p w (hp : p < 32) => rhas_any a p w ha hp)
  have HLe := Lib.hid (fun k => sumK_le (f := hasN a) hb k)
  have HR := Lib.hid (fun k => roseB_at hb k)
  have HY := Lib.hid (fun k h => sumK_yes (f := hasN a) (L := L) (k := k) h)
  have HN := Lib.hid (fun k h => sumK_no (f := hasN a) (L := L) (k := k) h)
  have HE := Lib.hid (show roS a L = sumK (hasN a) L 32 from rfl)
  clear hblk1 hs1 hb1 hs2 hb2 hb ha
  rw [HE.out]
  obtain ⟨f, hf⟩ : ∃ f, hasN a = f := ⟨_, rfl⟩
  simp only [hf] at HH HLe HY HN ⊢
  clear HE hf
  obtain ⟨x, y⟩ := a
  unfold Pt.v at *
  simp only at HH hW2 h0 h1 F ⊢
  go_enter Tryd.func91, Tryd.ntmps91
  go_wp2_with fail
  clear hW1 hW2 h0 h1
  go_loopw [5, 6] (fun v i wr => ∃ k : Nat, k ≤ 32 ∧ i = .int .i64 k ∧ v = .int .i64 (sumK f L k) ∧ Below W2.heap.size W2 wr) (fun _ i _ => 32 - (intOf i).toNat)
  case atStart => exact ⟨0, by omega, rfl, rfl, Below.refl _ _⟩
  case round =>
    obtain ⟨k, hk, rfl, rfl, hbw⟩ := hrel
    have BW := Lib.hid hbw
    have k3 := pt_keep F.out hbw
    have c0 := k3.1
    have c1 := k3.2
    clear k3
    have BKr := Lib.hid ((hbw.block _ (lt_of_block BK.out)).trans BK.out)
    clear hbw
    by_cases hlt : k < 32
    · have HQ := Lib.hid (fun w => HH.out k w hlt)
      have hle := HLe.out k
      have hro := HR.out k
      cases hq : f k
      · have HS := Lib.hid (HN.out k hq)
        rw [hq] at HQ
        clear hq
        generalize sumK f L k = S at *
        go_wp2_with fail
        refine (HQ.out wr).mono ?_
        rintro e w3 ⟨rfl, hb⟩
        have B3 := Lib.hid (BW.out.trans (hb.mono BW.out.size))
        clear hb
        go_wp2_with fail
        go_roundw
        case rel => exact ⟨k + 1, by omega, by go_num, by rw [HS.out], B3.out⟩
        case measure => simp [intOf]; omega
      · have HS := Lib.hid (HY.out k hq)
        rw [hq] at HQ
        clear hq
        have hat := HA0.out k hlt
        generalize sumK f L k = S at *
        generalize L.getD k 0 = d at *
        have e1 : IntKind.i64.wrap (S + d) = S + d := by rw [IntKind.wrap_i64]; omega
        have HAt := Lib.hid hat
        clear hat
        go_wp2_with fail
        refine (HQ.out wr).mono ?_
        rintro e w3 ⟨rfl, hb⟩
        have B3 := Lib.hid (BW.out.trans (hb.mono BW.out.size))
        have hc : w3.cell? ⟨w.heap.size, k, none⟩ = some (.int .i64 d) := by rw [blk_cell ((hb.block _ (lt_of_block BKr.out)).trans BKr.out)]; exact HAt.out
        clear hb c0 c1
        go_wp2_with fail
        go_roundw
        case rel => exact ⟨k + 1, by omega, by go_num, by rw [HS.out], B3.out⟩
        case measure => simp [intOf]; omega
    · obtain rfl : k = 32 := by omega
      go_wp2_with fail
      go_ret
      exact ⟨rfl, B2.out.trans (BW.out.mono B2.out.size)⟩
set_option maxRecDepth 4000 in
theorem rSum_any (L : List Int) (a : Pt) (w : World) (hL : Rose L) : Calls Tryd.prog 53 #[.agg (rv L), a.v] w fun e w' => e = .returned (.tuple #[.int .i64 (sumV a L), .int .i64 (sumE a L)]) ∧ Below w.heap.size w w' := by
  obtain ⟨W1, hW1, hblk1, hs1, hb1⟩ := one_blk w (rv L) 61
  obtain ⟨W2, hW2, h0, h1, hs2, hb2⟩ := one_pt W1 (.int .i64 a.x) (.int .i64 a.y) 23
  have BK := Lib.hid ((hb2.block _ hs1).trans hblk1)
  have F := Lib.hid (And.intro h0 (And.intro h1 hs2))
  have B2 := Lib.hid (hb1.trans (hb2.mono hb1.size))
  have HV := Lib.hid (fun w => rValidateArc_any a w)
  have HRo := Lib.hid (fun w => roseOK_any L w hL)
  have HSz := Lib.hid (size_rose hL)
  have HLt := Lib.hid (Nat.lt_trans hs1 hs2)
  clear hblk1 hs1 hb1 hs2 hb2
  by_cases hv : arcE a = 0
  · by_cases hr : roseB L = true
    · have e1 : sumE a L = 0 := by unfold sumE; rw [if_pos hv, if_pos hr]
      have e2 : sumV a L = roS a L := if_pos e1
      have HS := Lib.hid (fun w => rsum_any L a w hv hL hr)
      rw [e1, e2]
      rw [hv] at HV
      rw [rosE_yes hr] at HRo
      clear hv hr e1 e2
      generalize roS a L = S at *
      obtain ⟨x, y⟩ := a
      unfold Pt.v at *
      simp only at HV HS hW2 h0 h1 F ⊢
      go_enter Tryd.func53, Tryd.ntmps53
      go_wp2_with fail
      clear hW1 hW2
      go_wp2_with fail
      refine (HV.out W2).mono ?_
      rintro e w3 ⟨rfl, hb⟩
      have B3 := Lib.hid hb
      have k3 := pt_keep F.out hb
      have BK3 := Lib.hid ((hb.block _ HLt.out).trans BK.out)
      have B4 := Lib.hid (B2.out.trans (hb.mono B2.out.size))
      clear hb h0 h1
      have K3 := Lib.hid k3
      have L3 := Lib.hid (World.block_lt_of_cell? w3 _ k3.1)
      clear k3
      go_wp2_with ((with_reducible show wpList _ _ _ (⟨some 13, _, _, _, _, _⟩ :: _) _ _); refine wpList_load_row rfl 61 (.tmp 2) rfl w.heap.size rfl _ _ _ _ BK3.out Tryd.underlying61 rfl HSz.out ?_)
      refine (HRo.out w3).mono ?_
      rintro e w4 ⟨rfl, hb⟩
      have BK4 := Lib.hid ((hb.block _ (lt_of_block BK3.out)).trans BK3.out)
      have k4 := pt_keep (And.intro K3.out.1 (And.intro K3.out.2 L3.out)) hb
      have B5 := Lib.hid (B4.out.trans (hb.mono B4.out.size))
      have c0 := k4.1
      have c1 := k4.2
      clear hb k4
      go_wp2_with ((with_reducible show wpList _ _ _ (⟨some 18, _, _, _, _, _⟩ :: _) _ _); refine wpList_load_row rfl 61 (.tmp 2) rfl w.heap.size rfl _ _ _ _ BK4.out Tryd.underlying61 rfl HSz.out ?_)
      refine (HS.out w4).mono ?_
      rintro e w5 ⟨rfl, hb⟩
      go_wp2_with fail
      go_ret2
      exact ⟨rfl, B5.out.trans (hb.mono B5.out.size)⟩
    · have e1 : sumE a L = 1 := by unfold sumE; rw [if_pos hv, if_neg hr]
      have e2 : sumV a L = 0 := by unfold sumV; rw [e1]; rfl
      rw [e1, e2]
      rw [hv] at HV
      rw [rosE_no (by simpa using hr)] at HRo
      clear hv hr e1 e2
      obtain ⟨x, y⟩ := a
      unfold Pt.v at *
      simp only at HV hW2 h0 h1 F ⊢
      go_enter Tryd.func53, Tryd.ntmps53
      go_wp2_with fail
      clear hW1 hW2
      go_wp2_with fail
      refine (HV.out W2).mono ?_
      rintro e w3 ⟨rfl, hb⟩
      have B3 := Lib.hid hb
      have BK3 := Lib.hid ((hb.block _ HLt.out).trans BK.out)
      have B4 := Lib.hid (B2.out.trans (hb.mono B2.out.size))
      clear hb h0 h1
      go_wp2_with ((with_reducible show wpList _ _ _ (⟨some 13, _, _, _, _, _⟩ :: _) _ _); refine wpList_load_row rfl 61 (.tmp 2) rfl w.heap.size rfl _ _ _ _ BK3.out Tryd.underlying61 rfl HSz.out ?_)
      refine (HRo.out w3).mono ?_
      rintro e w4 ⟨rfl, hb⟩
      go_wp2_with fail
      go_ret2
      exact ⟨rfl, B4.out.trans (hb.mono B4.out.size)⟩
  · have e1 : sumE a L = 1 := if_neg hv
    have e2 : sumV a L = 0 := by unfold sumV; rw [e1]; rfl
    rw [e1, e2]
    rw [arcE_one hv] at HV
    clear hv e1 e2
    obtain ⟨x, y⟩ := a
    unfold Pt.v at *
    simp only at HV hW2 h0 h1 F ⊢
    go_enter Tryd.func53, Tryd.ntmps53
    go_wp2_with fail
    clear hW1 hW2
    go_wp2_with fail
    refine (HV.out W2).mono ?_
    rintro e w3 ⟨rfl, hb⟩
    have B3 := Lib.hid hb
    have B4 := Lib.hid (B2.out.trans (hb.mono B2.out.size))
    clear hb h0 h1
    go_wp2_with fail
    go_ret2
    exact ⟨rfl, B4.out⟩
end Go.Proofs.YtnnlbllkckakbaaDoor

/-
  The code for lengths, as the reference makes it: the walk of FromLengths. Condition: the lengths can be read.
-/
import Derived.Test.YtjongjndoaojnaaLn2
import Derived.Test.YtjongjndoaojnaaFl7
namespace Go.Proofs.Ytjongjndoaojnaa
open Go.RowKit
set_option linter.unusedVariables false

theorem wrap_add3 {a n : Nat} (ha : a ≤ 100000) (h2 : n ≤ 12) : wrap64 ((a : Int) + wrap64 (2 ^ (12 - n))) = ((a + 2 ^ (12 - n) : Nat) : Int) := by
  have e2 : (2 : Int) ^ (12 - n) = ((2 ^ (12 - n) : Nat) : Int) := by simp
  have e3 : 2 ^ (12 - n) ≤ 2 ^ 12 := Nat.pow_le_pow_right (by decide) (by omega)
  rw [e2]
  generalize 2 ^ (12 - n) = m at *
  unfold wrap64
  omega
set_option maxRecDepth 8000 in
set_option maxHeartbeats 4000000 in
theorem rFromLengths_any (A : Option Addr) (c : Nat) (L : List Int) (w : World) (hr : Rd w w.heap.size A (ints L)) (hl : L.length ≤ 9223372036854775807) :
    Calls Try.prog 44 #[.slice A L.length c] w fun e w' => FromPost L w e w' := by
  have HF := Lib.hid (rFill_any A c L w hr hl)
  have HR := Lib.hid hr
  unfold FillPost at HF
  clear hr
  cases hv : lenB L
  · have HE := Lib.hid (show fromE L = 1 by unfold fromE; rw [hv]; rfl)
    rw [show fillR L = (0, 0) by unfold fillR; rw [hv]; rfl, show lokE L = 1 by unfold lokE; rw [hv]; rfl] at HF
    clear hv
    go_enter Try.func44, Try.ntmps44
    go_wp2_with fail
    refine HF.out.mono ?_
    rintro e w1 ⟨rfl, hb⟩
    have B1 := Lib.hid hb
    clear hb
    go_wp2_with fail
    go_ret2
    have hL : fromL L = [] := by unfold fromL; rw [HE.out]; rfl
    exact ⟨none, 0, by rw [hL, HE.out]; rfl, by rw [hL]; exact Nat.le_refl _, by omega, by rw [hL]; exact Rd.nil_, B1.out.alloc B1.out.size _⟩
  · rw [show fillR L = red 12 (fil L) by unfold fillR; rw [hv]; rfl, show lokE L = 0 by unfold lokE; rw [hv]; rfl] at HF
    obtain ⟨h1, h12, hall⟩ := lenB_iff hv
    have HL := Lib.hid (show Lok L from hall)
    have HV := Lib.hid hv
    have hgt := red_gt 12 (fil L)
    clear hall hv
    by_cases hfl : 4096 < fil L
    · have HE := Lib.hid (show fromE L = 8 by unfold fromE; rw [if_pos HV.out, if_pos hfl])
      have e1 : decide ((((red 12 (fil L)).2 : Nat) : Int) < (((red 12 (fil L)).1 : Nat) : Int)) = true := by simp; omega
      have e2 : decide ((red 12 (fil L)).2 < (red 12 (fil L)).1) = true := by simp; omega
      clear hgt hfl
      generalize (red 12 (fil L)).1 = na at *
      generalize (red 12 (fil L)).2 = nd at *
      go_enter Try.func44, Try.ntmps44
      go_wp2_with fail
      refine HF.out.mono ?_
      rintro e w1 ⟨rfl, hb⟩
      have B1 := Lib.hid hb
      clear hb
      go_wp2_with fail
      go_ret2
      have hL : fromL L = [] := by unfold fromL; rw [HE.out]; rfl
      exact ⟨none, 0, by rw [hL, HE.out]; rfl, by rw [hL]; exact Nat.le_refl _, by omega, by rw [hL]; exact Rd.nil_, B1.out.alloc B1.out.size _⟩
    · have HE := Lib.hid (show fromE L = 0 by unfold fromE; rw [if_pos HV.out, if_neg hfl])
      have e1 : decide ((((red 12 (fil L)).2 : Nat) : Int) < (((red 12 (fil L)).1 : Nat) : Int)) = false := by simp; omega
      have e2 : decide ((red 12 (fil L)).2 < (red 12 (fil L)).1) = false := by simp; omega
      clear hgt hfl
      generalize (red 12 (fil L)).1 = na at *
      generalize (red 12 (fil L)).2 = nd at *
      obtain ⟨i0, hi, hz0, hz1, hz2⟩ := info_parts eStr.hi
      go_enter Try.func44, Try.ntmps44
      go_wp2_with fail
      refine HF.out.mono ?_
      rintro e w1 ⟨rfl, hb⟩
      have B1 := Lib.hid hb
      clear hb
      obtain ⟨W, hW, hWb, hWs, hWB⟩ := one_blk w1 #[.int .i64 na, .int .i64 nd] 44
      have HW := Lib.hid hW
      have BW := Lib.hid (B1.out.trans (hWB.mono B1.out.size))
      have c0 := (blk_cell (j := 0) hWb).trans (show _ = some (.int .i64 (na : Int)) from rfl)
      have c1 := (blk_cell (j := 1) hWb).trans (show _ = some (.int .i64 (nd : Int)) from rfl)
      clear hW hWb hWs hWB
      go_wp2_with (first
        | (at_make; refine wpList_make_full _ rfl (.tmp 24) (.tmp 24) 22 rfl (w1.alloc (.cells #[.int .i64 na, .int .i64 nd] 44)).heap.size 9 i0 (.string ⟨#[]⟩) 1 Try.underlying22 hi hz0 hz1 .i64 .i64 _ _ L.length rfl rfl rfl rfl (by rw [hz2]; omega) (by simp only [maxLen]; omega) (Nat.le_refl _) ?_; intro w3 hown hgr; have MD := Lib.hid (made_txts hown hgr L); clear hown hgr)
        | fail)
      rw [HW.out] at MD
      have hsz : W.heap.size = w1.heap.size + 1 := by rw [← HW.out]; simp
      rw [hsz] at MD
      have HWL := Lib.hid (show w.heap.size ≤ w1.heap.size + 1 by have := B1.out.size; omega)
      have B3 := Lib.hid (BW.out.trans (MD.out.1.mono HWL.out))
      have M3 := Lib.hid MD.out.2
      clear c0 c1 hsz BW
      obtain ⟨mb, hmb⟩ : ∃ x, x = w1.heap.size + 1 := ⟨_, rfl⟩
      rw [← hmb] at HWL M3
      rw [← hmb]
      have HMB := Lib.hid (show mb < w3.heap.size from lt_of_block M3.out)
      clear hmb MD HW W e1 e2
      go_loopw [7, 8] (fun v nn wr => ∃ n : Nat, 1 ≤ n ∧ n ≤ 13 ∧ v = .int .i64 (befK L (vis L n 0).length : Nat) ∧ nn = .int .i64 n ∧ wr.heap[mb]? = some (.cells (rowT (codK L (vis L n 0).length) L.length).toArray 9 (0, 0)) ∧ Kp mb mb none w3 wr) (fun _ nn _ => 13 - (intOf nn).toNat)
      case atStart => exact ⟨1, by omega, by omega, by rw [vis_one HL.out]; simp [befK], rfl, by rw [vis_one HL.out]; exact M3.out, Kp.refl⟩
      case round =>
        obtain ⟨n, hn1, hn13, rfl, rfl, h3, h4⟩ := hrel
        have MR := Lib.hid h3
        have KR := Lib.hid h4
        clear h3 h4
        by_cases hn : n ≤ 12
        · have e1 : decide ((n : Int) ≤ 12) = true := by simp; omega
          have e1' : decide (n ≤ 12) = true := by simpa using hn
          obtain ⟨bf0, hbf0⟩ : ∃ x, x = befK L (vis L n 0).length := ⟨_, rfl⟩
          have HB0 := Lib.hid hbf0
          rw [← hbf0]
          clear hbf0
          go_wp2_with fail
          clear e1 e1'
          go_loopw [7, 9] (fun v ii wr => ∃ i : Nat, i ≤ L.length ∧ v = .int .i64 (befK L (vis L n i).length : Nat) ∧ ii = .int .i64 i ∧ wr.heap[mb]? = some (.cells (rowT (codK L (vis L n i).length) L.length).toArray 9 (0, 0)) ∧ Kp mb mb none w3 wr) (fun _ ii _ => L.length - (intOf ii).toNat)
          case atStart => exact ⟨0, by omega, by rw [HB0.out], rfl, MR.out, KR.out⟩
          case round =>
            obtain ⟨i, hi2, rfl, rfl, h3, h4⟩ := hrel
            have MQ := Lib.hid h3
            have KQ := Lib.hid h4
            clear h3 h4
            by_cases hlt : i < L.length
            · obtain ⟨hli, hl1, hl12⟩ := lenAt_int HL.out hlt
              obtain ⟨b6, o6, hA6, hb6, hc6⟩ := (KQ.out.rd (HR.out.below B3.out (Nat.le_refl _)) B3.out.size fun b o h => by have := HR.out.blk_lt h1 b o h; have := HWL.out; omega).at_ (ints_at hli)
              have HA6 := Lib.hid hA6
              subst hA6
              have b0 : (0 : Int) ≤ (i : Int) := by omega
              have b1 : (i : Int) < (L.length : Int) := by omega
              by_cases he : lenAt L i = n
              · have HT := Lib.hid (vis_at HL.out hn hlt he)
                have HTL := Lib.hid (vis_take_len he)
                have hbf := befK_le HL.out h12 (vis L n i).length
                have HS := Lib.hid (codK_set (n := L.length) HT.out)
                have HBN := Lib.hid (befK_next HT.out)
                rw [he] at HS HBN hc6
                have cm : wr.cell? ⟨mb, i, none⟩ = some (.string (codK L (vis L n i).length i)) := by rw [blk_cell MQ.out]; exact rowT_at hlt
                have fm := blk_free MQ.out i
                have HWA := Lib.hid (wrap_add3 (a := befK L (vis L n i).length) (n := n) (by omega) hn)
                have HBI := Lib.hid (fun w => binary_any (befK L (vis L n i).length / 2 ^ (12 - n)) n w (Nat.lt_of_le_of_lt (Nat.div_le_self _ _) (by omega)) hn)
                have e3 : (((n : Nat) : Int) == ((n : Nat) : Int)) = true := by simp
                have b4 : (0 : Int) ≤ 12 - (n : Int) := by omega
                have hdv : ((befK L (vis L n i).length : Nat) : Int) / 2 ^ (12 - n) = ((befK L (vis L n i).length / 2 ^ (12 - n) : Nat) : Int) := by simp
                generalize codK L (vis L n i).length i = old at *
                obtain ⟨t, ht⟩ : ∃ t, t = (vis L n i).length := ⟨_, rfl⟩
                rw [← ht] at HTL HS HBN HWA hbf HBI MQ hdv
                rw [← ht]
                obtain ⟨bf, hbfe⟩ : ∃ x, x = befK L t := ⟨_, rfl⟩
                have HBF := Lib.hid hbfe
                rw [← hbfe] at HS HBN HWA hbf HBI hdv
                rw [← hbfe]
                have HDV := Lib.hid hdv
                have MS := Lib.hid (blk_set MQ.out i (.string (sgN (bf / 2 ^ (12 - n)) n)))
                have KS := Lib.hid (KQ.out.step (Kp.grown (lb := mb) (mb := mb) (grown_setC wr mb i (.string (sgN (bf / 2 ^ (12 - n)) n))) (.inr (.inl rfl))))
                clear he ht hbfe hli hdv
                go_wp2_with fail
                rw [HDV.out]
                refine (HBI.out _).mono ?_
                rintro e w' ⟨rfl, rfl⟩
                go_wp2_with fail
                go_roundw
                case rel => exact ⟨i + 1, by omega, by rw [HTL.out, HBN.out, ← HWA.out], by go_num, by rw [HTL.out, ← HS.out]; exact MS.out, KS.out⟩
                case measure => simp [intOf]; omega
              · have HV2 := Lib.hid (vis_skip he)
                have e3 : (((lenAt L i : Nat) : Int) == ((n : Nat) : Int)) = false := by rw [beq_eq_false_iff_ne]; omega
                have e4 : (lenAt L i == n) = false := by rw [beq_eq_false_iff_ne]; exact he
                generalize lenAt L i = li at *
                obtain ⟨bf, hbfe⟩ : ∃ x, x = befK L (vis L n i).length := ⟨_, rfl⟩
                have HBF := Lib.hid hbfe
                rw [← hbfe]
                clear he hbfe hli
                go_wp2_with fail
                go_roundw
                case rel => exact ⟨i + 1, by omega, by rw [HV2.out, HBF.out], by go_num, by rw [HV2.out]; exact MQ.out, KQ.out⟩
                case measure => simp [intOf]; omega
            · have hks : i = L.length := by omega
              have HVR := Lib.hid (vis_row L n)
              subst hks
              obtain ⟨bf, hbfe⟩ : ∃ x, x = befK L (vis L n L.length).length := ⟨_, rfl⟩
              have HBF := Lib.hid hbfe
              rw [← hbfe]
              clear hbfe
              go_wp2_with fail
              go_roundw
              case rel => exact ⟨n + 1, by omega, by omega, by rw [HVR.out, HBF.out], by go_num, by rw [HVR.out]; exact MQ.out, KQ.out⟩
              case measure => simp [intOf]; omega
        · have hn2 : n = 13 := by omega
          subst hn2
          have HVL := vis_len HL.out
          rw [HVL] at MR
          have e1 : decide (((13 : Nat) : Int) ≤ 12) = false := by decide
          generalize befK L (vis L 13 0).length = bf at *
          clear HVL
          go_wp2_with fail
          go_ret2
          have hL : fromL L = codL L := by unfold fromL; rw [if_pos HE.out]
          have hcl : (codL L).length = L.length := codL_len L
          refine ⟨some ⟨mb, 0, none⟩, L.length, by rw [hL, hcl, HE.out]; rfl, by rw [hL, hcl]; exact Nat.le_refl _, h12, by rw [hL]; exact Rd.of_block MR.out, ?_⟩
          exact B3.out.trans ((KR.out.below' (by have := HMB.out; omega)).mono HWL.out)
end Go.Proofs.Ytjongjndoaojnaa

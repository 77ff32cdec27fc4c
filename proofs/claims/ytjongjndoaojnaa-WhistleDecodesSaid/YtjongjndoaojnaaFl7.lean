/-
  The code for lengths: the walk of FromLengths. Condition: the lengths can be read.
-/
import Derived.Test.YtjongjndoaojnaaFl6
namespace Go.Proofs.Ytjongjndoaojnaa
open Go.RowKit
set_option linter.unusedVariables false

theorem wrap_shl {v m : Nat} (h : v * 2 ^ m ≤ 100000) : wrap64 ((v : Int) * 2 ^ m) = ((v * 2 ^ m : Nat) : Int) := by
  have e : (v : Int) * 2 ^ m = ((v * 2 ^ m : Nat) : Int) := by simp
  rw [e]
  generalize v * 2 ^ m = x at *
  unfold wrap64
  omega
theorem Kp.step {mb : Nat} {w w' w'' : World} (h : Kp mb mb none w w') (k : Kp mb mb none w' w'') : Kp mb mb none w w'' := h.trans Ob.refl k
/-- What FromLengths gives. -/
def FromPost (L : List Int) (w : World) (e : Ending) (w' : World) : Prop :=
  ∃ A' c', e = .returned (.tuple #[.slice A' (fromL L).length c', .int .i64 (fromE L)]) ∧ (fromL L).length ≤ c' ∧ c' ≤ 12 ∧ Rd w' w'.heap.size A' (txts (fromL L)) ∧ Below w.heap.size w w'
set_option maxRecDepth 4000 in
set_option maxHeartbeats 4000000 in
theorem FromLengths_any (A : Option Addr) (c : Nat) (L : List Int) (w : World) (hr : Rd w w.heap.size A (ints L)) (hl : L.length ≤ 9223372036854775807) :
    Calls Try.prog 43 #[.slice A L.length c] w fun e w' => FromPost L w e w' := by
  have HA := Lib.hid (areLengths_any A c L w hr hl)
  cases hv : lenB L
  · rw [hv] at HA
    have HE := Lib.hid (show fromE L = 1 by unfold fromE; rw [hv]; rfl)
    clear hr hv
    go_enter Try.func43, Try.ntmps43
    go_wp2_with fail
    refine (HA.out).mono ?_
    rintro e w' ⟨rfl, rfl⟩
    go_wp2_with fail
    go_ret2
    have hL : fromL L = [] := by unfold fromL; rw [HE.out]; rfl
    exact ⟨none, 0, by rw [hL, HE.out]; rfl, by rw [hL]; exact Nat.le_refl _, by omega, by rw [hL]; exact Rd.nil_, Below.refl _ _⟩
  · rw [hv] at HA
    have HF := Lib.hid (fillOf_any A c L w hr hv)
    obtain ⟨h1, h12, hall⟩ := lenB_iff hv
    have HR := Lib.hid hr
    have HL := Lib.hid hall
    have HV := Lib.hid hv
    have hgt := red_gt 12 (fil L)
    clear hr hall hv
    by_cases hfl : 4096 < fil L
    · have HE := Lib.hid (show fromE L = 8 by unfold fromE; rw [if_pos HV.out, if_pos hfl])
      have e1 : decide ((((red 12 (fil L)).2 : Nat) : Int) < (((red 12 (fil L)).1 : Nat) : Int)) = true := by simp; omega
      have e2 : decide ((red 12 (fil L)).2 < (red 12 (fil L)).1) = true := by simp; omega
      clear hgt hfl
      generalize (red 12 (fil L)).1 = na at *
      generalize (red 12 (fil L)).2 = nd at *
      go_enter Try.func43, Try.ntmps43
      go_wp2_with fail
      refine (HA.out).mono ?_
      rintro e w' ⟨rfl, rfl⟩
      go_wp2_with fail
      refine HF.out.mono ?_
      rintro e w1 ⟨rfl, hb⟩
      have B1 := Lib.hid hb
      clear hb
      go_wp2_with fail
      go_ret2
      have hL : fromL L = [] := by unfold fromL; rw [HE.out]; rfl
      exact ⟨none, 0, by rw [hL, HE.out]; rfl, by rw [hL]; exact Nat.le_refl _, by omega, by rw [hL]; exact Rd.nil_, B1.out.alloc B1.out.size _⟩
    · have HE := Lib.hid (show fromE L = 0 by unfold fromE; rw [if_pos HV.out, if_neg hfl])
      have e1 : decide ((((red 12 (fil L)).2 : Nat) : Int) < (((red 12 (fil L)).1 : Nat) : Int)) = false := by simp; omega
      have e2 : decide ((red 12 (fil L)).2 < (red 12 (fil L)).1) = false := by simp; omega
      clear hgt hfl
      generalize (red 12 (fil L)).1 = na at *
      generalize (red 12 (fil L)).2 = nd at *
      obtain ⟨i0, hi, hz0, hz1, hz2⟩ := info_parts eStr.hi
      go_enter Try.func43, Try.ntmps43
      go_wp2_with fail
      refine (HA.out).mono ?_
      rintro e w' ⟨rfl, rfl⟩
      go_wp2_with fail
      refine HF.out.mono ?_
      rintro e w1 ⟨rfl, hb⟩
      have B1 := Lib.hid hb
      clear hb
      obtain ⟨W, hW, hWb, hWs, hWB⟩ := one_blk w1 #[.int .i64 na, .int .i64 nd] 44
      have HW := Lib.hid hW
      have BW := Lib.hid (B1.out.trans (hWB.mono B1.out.size))
      have c0 := (blk_cell (j := 0) hWb).trans (show _ = some (.int .i64 (na : Int)) from rfl)
      have c1 := (blk_cell (j := 1) hWb).trans (show _ = some (.int .i64 (nd : Int)) from rfl)
      clear hW hWb hWs hWB
      go_wp2_with (first
        | (at_make; refine wpList_make_full _ rfl (.tmp 21) (.tmp 21) 22 rfl (w1.alloc (.cells #[.int .i64 na, .int .i64 nd] 44)).heap.size 9 i0 (.string ⟨#[]⟩) 1 Try.underlying22 hi hz0 hz1 .i64 .i64 _ _ L.length rfl rfl rfl rfl (by rw [hz2]; omega) (by simp only [maxLen]; omega) (Nat.le_refl _) ?_; intro w3 hown hgr; have MD := Lib.hid (made_txts hown hgr L); clear hown hgr)
        | fail)
      rw [HW.out] at MD
      have hsz : W.heap.size = w1.heap.size + 1 := by rw [← HW.out]; simp
      rw [hsz] at MD
      have HWL := Lib.hid (show w.heap.size ≤ w1.heap.size + 1 by have := B1.out.size; omega)
      have R3 := Lib.hid (HR.out.below (BW.out.trans (MD.out.1.mono HWL.out)) (Nat.le_refl _))
      have B3 := Lib.hid (BW.out.trans (MD.out.1.mono HWL.out))
      have M3 := Lib.hid MD.out.2
      clear c0 c1 hsz BW
      obtain ⟨mb, hmb⟩ : ∃ x, x = w1.heap.size + 1 := ⟨_, rfl⟩
      rw [← hmb] at HWL M3
      rw [← hmb]
      have HMB := Lib.hid (show mb < w3.heap.size from lt_of_block M3.out)
      clear hmb MD HW W
      refine (shortest_any A c L w3 (R3.out.more B3.out.size) h1 h12).mono ?_
      rintro e w4 ⟨A2, c2, rfl, hc2, rd2, hbk, hb4⟩
      have R4 := Lib.hid rd2
      have HBK := Lib.hid (fun b o h => hbk b o h)
      have B4 := Lib.hid (B3.out.trans (hb4.mono B3.out.size))
      have M4 := Lib.hid ((hb4.block mb HMB.out).trans M3.out)
      have H34 := Lib.hid (show w3.heap.size ≤ w4.heap.size from hb4.size)
      clear rd2 hbk hb4
      have hol := ordL_len L
      have HOL := Lib.hid hol
      clear hol
      go_wp2_with fail
      go_loopw [6, 7, 26] (fun v ln i wr => ∃ t vn lnn : Nat, t ≤ L.length ∧ v = .int .i64 (vn : Int) ∧ ln = .int .i64 (lnn : Int) ∧ i = .int .i64 t ∧ Num L t vn lnn ∧ vn ≤ 30000 ∧ wr.heap[mb]? = some (.cells (rowT (codK L t) L.length).toArray 9 (0, 0)) ∧ Kp mb mb none w4 wr) (fun _ _ i _ => L.length - (intOf i).toNat)
      case atStart => exact ⟨0, 0, 0, by omega, rfl, rfl, rfl, Num.zero L, by omega, M4.out, Kp.refl⟩
      case round =>
        obtain ⟨t, v, ln, ht, rfl, rfl, rfl, hn, hv, hm, hk⟩ := hrel
        have HN := Lib.hid hn
        have MR := Lib.hid hm
        have KR := Lib.hid hk
        clear hn hm hk
        by_cases hlt : t < L.length
        · obtain ⟨i, hi⟩ : ∃ i, (ordL L)[t]? = some i := ⟨_, List.getElem?_eq_getElem (by rw [HOL.out]; exact hlt)⟩
          have HI := Lib.hid hi
          have hil := ordL_lt hi
          obtain ⟨hli, hl1, hl12⟩ := lenAt_int HL.out hil
          have HV2 := HN.out.val HL.out h12 hi
          have hmono := HN.out.up t i (Nat.le_refl _) hi
          obtain ⟨b5, o5, hA2, hb5, hc5⟩ := (KR.out.rd R4.out (Nat.le_refl _) fun b o h => by have := HBK.out b o h; have := HMB.out; omega).at_ (show (nats (ordL L))[t]? = some (.int .i64 (i : Int)) by unfold nats; rw [List.getElem?_map, hi]; rfl)
          obtain ⟨b6, o6, hA6, hb6, hc6⟩ := (KR.out.rd (HR.out.below B4.out (Nat.le_refl _)) B4.out.size fun b o h => by have := HR.out.blk_lt h1 b o h; have := HWL.out; omega).at_ (ints_at hli)
          subst hA2 hA6
          have HS := Lib.hid (codK_set (n := L.length) hi)
          have cm : wr.cell? ⟨mb, i, none⟩ = some (.string (codK L t i)) := by rw [blk_cell MR.out]; exact rowT_at hil
          have fm := blk_free MR.out i
          generalize codK L t i = old at cm
          have b0 : (0 : Int) ≤ (i : Int) := by omega
          have b1 : (i : Int) < (L.length : Int) := by omega
          have b2 : (0 : Int) ≤ (t : Int) := by omega
          have b3 : (t : Int) < (L.length : Int) := by omega
          have b4 : (0 : Int) ≤ (lenAt L i : Int) - (ln : Int) := by omega
          have HVV := Lib.hid HV2
          clear HV2 hi hli
          generalize lenAt L i = li at *
          have HWR := Lib.hid (wrap_shl (v := v) (m := li - ln) (by have := HVV.out.2.1; omega))
          go_wp2_with fail
          rw [HWR.out]
          have hv1 := HVV.out.1
          have hv2 := HVV.out.2.1
          have HN2 := Lib.hid HVV.out.2.2
          rw [← hv1] at HS
          clear HVV HWR b4 hmono hv1
          generalize v * 2 ^ (li - ln) = v2 at *
          refine (signalOf_any v2 li wr (by omega) hl1 hl12).mono ?_
          rintro e w5 ⟨rfl, hb⟩
          have hlt5 := lt_of_block MR.out
          have M5 := (hb.block mb hlt5).trans MR.out
          have cm5 : w5.cell? ⟨mb, i, none⟩ = some (.string old) := (hb.cell (p := ⟨mb, i, none⟩) hlt5).trans cm
          have fm5 := blk_free M5 i
          have M6 := Lib.hid (blk_set M5 i (.string (sgN v2 li)))
          have K6 := Lib.hid ((KR.out.step (Kp.of_below hb)).step (Kp.grown (lb := mb) (mb := mb) (grown_setC w5 mb i (.string (sgN v2 li))) (.inr (.inl rfl))))
          clear hb M5 cm fm hlt5
          go_wp2_with fail
          go_roundw
          case rel => exact ⟨t + 1, v2 + 1, li, by omega, by go_num, rfl, by go_num, HN2.out, by omega, by rw [← HS.out]; exact M6.out, K6.out⟩
          case measure => simp [intOf]; omega
        · have hks : t = L.length := by omega
          subst hks
          go_wp2_with fail
          go_ret2
          have hL : fromL L = codL L := by unfold fromL; rw [if_pos HE.out]
          have hcl : (codL L).length = L.length := by simp [codL]
          have hlt5 := lt_of_block MR.out
          refine ⟨some ⟨mb, 0, none⟩, L.length, by rw [hL, hcl, HE.out]; rfl, by rw [hL, hcl]; exact Nat.le_refl _, h12, by rw [hL]; exact Rd.of_block MR.out, ?_⟩
          exact B4.out.trans ((KR.out.below' (by have := HMB.out; have := H34.out; omega)).mono HWL.out)
end Go.Proofs.Ytjongjndoaojnaa

/-
  TopCounts: the walk. Condition: the list can be read.
-/
import Derived.Test.YtegehfcnclpdeabDoorTc1
import Derived.Test.YtegehfcnclpdeabDoorCc6
import Derived.Test.YtegehfcnclpdeabDoorLwThree
namespace Go.Proofs.YtegehfcnclpdeabDoor
open Go.RowKit
set_option linter.unusedVariables false

theorem kBinom (w : World) : Calls Tryd.prog 4 #[.int .i64 6, .int .i64 3] w fun e w' => e = .returned (.tuple #[.int .i64 20, .int .i64 0]) ∧ Below w.heap.size w w' := by
  have h := Binomial_any 6 3 w
  rw [show binV 6 3 = 20 by decide +kernel, show binE 6 3 = 0 by decide +kernel] at h
  exact h
set_option maxRecDepth 8000 in
set_option maxHeartbeats 16000000 in
theorem TopC_walk (b m c a : Int) (A : Option Addr) (cp : Nat) (C : List ByteArray) (w : World) (hr : Rd w w.heap.size A (txts C)) (hs : Sz C) (hlc : C.length ≤ cp) (hcm : cp ≤ maxLen) :
    Calls Tryd.prog 3 #[.agg (rc b m c a), .slice A C.length cp] w fun e w' => e = .returned (.bool true) ∧ Below w.heap.size w w' := by
  have hl : C.length ≤ 9223372036854775807 := by unfold maxLen at hcm; omega
  have HKB := Lib.hid kBinom
  have HBe := Lib.hid (fun w => Best_any m c a w)
  have HCt := Lib.hid (fun w h => Catches_any A cp C hs hl w h)
  have HAl := Lib.hid (fun w h => Alive_any A cp C hs hl w h)
  have HFi := Lib.hid (fun w h => First_any A cp C hs hl w h)
  have R0 := Lib.hid hr
  unfold CatPost at HCt
  unfold DayPost at HAl HFi
  clear hr hs hlc hcm
  by_cases h200 : 200 < C.length
  · have e1 : decide ((200 : Int) < (C.length : Int)) = true := decide_eq_true (by omega)
    have e1' : decide (200 < C.length) = true := decide_eq_true h200
    clear h200 HCt HAl HFi
    generalize C.length = len at *
    have B0 := Lib.hid (Below.refl w.heap.size w)
    go_enter Tryd.func3, Tryd.ntmps3
    have B1 := Lib.hid (B0.out.alloc B0.out.size (.cells (rc b m c a) 23))
    have gx := heap_alloc_new w (.cells (rc b m c a) 23)
    have x0 := (blk_cell (j := 0) gx).trans (show _ = some (.int .i64 b) from rfl)
    have x1 := (blk_cell (j := 1) gx).trans (show _ = some (.int .i64 m) from rfl)
    have x2 := (blk_cell (j := 2) gx).trans (show _ = some (.int .i64 c) from rfl)
    have x3 := (blk_cell (j := 3) gx).trans (show _ = some (.int .i64 a) from rfl)
    have Gx := Lib.hid gx
    clear gx
    go_wp2_with fail
    go_quiet (fail)
    obtain ⟨wq, hwq⟩ : ∃ wq, World.drewN (w.alloc (.cells (rc b m c a) 23)) nq = wq := ⟨_, rfl⟩
    rw [hwq]
    have BQ := Lib.hid (show Below w.heap.size w wq by rw [← hwq]; exact bdH B1.out nq)
    clear hwq x0 x1 x2 x3
    go_wp2_with fail
    refine (HKB.out wq).mono ?_
    rintro e w21 ⟨rfl, hb⟩
    have B21 := Lib.hid (BQ.out.trans (hb.mono BQ.out.size))
    clear hb
    go_wp2_with fail
    go_ret
    exact ⟨rfl, B21.out⟩
  · have e1 : decide ((200 : Int) < (C.length : Int)) = false := decide_eq_false (by omega)
    have e1' : decide (200 < C.length) = false := decide_eq_false h200
    clear h200
    cases hk : beK m c a
    · rw [hk] at HBe
      by_cases hE : beE m c a = 0
      · rw [hE] at HBe
        clear hk hE
        generalize beV m c a = x at *
        have B0 := Lib.hid (Below.refl w.heap.size w)
        go_enter Tryd.func3, Tryd.ntmps3
        have B1 := Lib.hid (B0.out.alloc B0.out.size (.cells (rc b m c a) 23))
        have gx := heap_alloc_new w (.cells (rc b m c a) 23)
        have x0 := (blk_cell (j := 0) gx).trans (show _ = some (.int .i64 b) from rfl)
        have x1 := (blk_cell (j := 1) gx).trans (show _ = some (.int .i64 m) from rfl)
        have x2 := (blk_cell (j := 2) gx).trans (show _ = some (.int .i64 c) from rfl)
        have x3 := (blk_cell (j := 3) gx).trans (show _ = some (.int .i64 a) from rfl)
        have Gx := Lib.hid gx
        clear gx
        go_wp2_with fail
        go_quiet (fail)
        obtain ⟨wq, hwq⟩ : ∃ wq, World.drewN (w.alloc (.cells (rc b m c a) 23)) nq = wq := ⟨_, rfl⟩
        rw [hwq]
        have BQ := Lib.hid (show Below w.heap.size w wq by rw [← hwq]; exact bdH B1.out nq)
        clear hwq x0 x1 x2 x3
        go_wp2_with fail
        refine (HKB.out wq).mono ?_
        rintro e w21 ⟨rfl, hb⟩
        have B21 := Lib.hid (BQ.out.trans (hb.mono BQ.out.size))
        clear hb
        go_wp2_with fail
        refine (HBe.out w21).mono ?_
        rintro e w22 ⟨rfl, hb⟩
        have B22 := Lib.hid (B21.out.trans (hb.mono B21.out.size))
        clear hb
        by_cases hv : vhE C = 0
        · obtain ⟨K, n, F, V, hC1, hC2, hN, hV, hF, hn8, hdv, hbd, hre, htot⟩ := tc_rows hv
          have HCt2 := HCt
          have HAl2 := HAl
          have HFi2 := HFi
          have HVd2 := Lib.hid (fun A cp w h => ValidateDays_any A cp (c3L K n) (by rw [c3L_len]; omega) w h)
          rw [hC2, hN, hv] at HCt2
          rw [hV, hv] at HAl2
          rw [hF, hv] at HFi2
          rw [rowZ_len] at HAl2 HFi2
          rw [c3L_len, c3L_cells, hdv] at HVd2
          have HBD := Lib.hid hbd
          have HRE := Lib.hid hre
          have HTOT := Lib.hid htot
          have HSM := Lib.hid (sm_le (F := F) (c := 60) (n := n) fun i hi => (hbd i hi).1)
          clear hC1 hC2 hN hV hF hdv hbd hre htot hv HCt HAl HFi
          generalize C.length = len at *
          go_wp2_with fail
          refine (HCt2.out w22 (R0.out.upH B22.out)).mono ?_
          rintro e v1 ⟨A1, c1, rfl, hr1, hb⟩
          have C1 := Lib.hid (B22.out.trans (hb.mono B22.out.size))
          have Q11 := Lib.hid hr1
          clear hb hr1
          go_wp2_with fail
          refine (HAl2.out v1 (R0.out.upH C1.out)).mono ?_
          rintro e v2 ⟨A2, c2, rfl, hr2, hb⟩
          have C2 := Lib.hid (C1.out.trans (hb.mono C1.out.size))
          have Q12 := Lib.hid (Q11.out.upH hb)
          have Q22 := Lib.hid hr2
          clear hb hr2
          go_wp2_with fail
          refine (HFi2.out v2 (R0.out.upH C2.out)).mono ?_
          rintro e v3 ⟨A3, c3, rfl, hr3, hb⟩
          have C3' := Lib.hid (C2.out.trans (hb.mono C2.out.size))
          have Q13 := Lib.hid (Q12.out.upH hb)
          have Q23 := Lib.hid (Q22.out.upH hb)
          have Q33 := Lib.hid hr3
          clear hb hr3
          go_wp2_with fail
          refine (HVd2.out A1 c1 v3 Q13.out).mono ?_
          rintro e v4 ⟨rfl, hb⟩
          have C4 := Lib.hid (C3'.out.trans (hb.mono C3'.out.size))
          have Q14 := Lib.hid (Q13.out.upH hb)
          have Q24 := Lib.hid (Q23.out.upH hb)
          have Q34 := Lib.hid (Q33.out.upH hb)
          clear hb
          go_wp2_with fail
          go_loopw [25, 26] (fun v i wr => ∃ k mk : Nat, k ≤ n ∧ v = .int .i64 (sm F k : Nat) ∧ i = .int .i64 k ∧ wr = v4.drewN mk) (fun _ i _ => n - (intOf i).toNat)
          case atStart => exact ⟨0, 0, by omega, rfl, rfl, rfl⟩
          case round =>
            obtain ⟨k, mk, hk, rfl, rfl, hw⟩ := hrel
            have HW := Lib.hid hw
            by_cases hlt : k < n
            · obtain ⟨b1, o1, hA1, k0, k1, k2⟩ := (show Rd wr v4.heap.size A1 _ by rw [hw]; exact Q14.out.drewN mk).three k hlt
              obtain ⟨b2, o2, d2, hA2, hd2, i2⟩ := (show Rd wr v4.heap.size A2 _ by rw [hw]; exact Q24.out.drewN mk).int k (by rw [rowZ_len]; exact hlt)
              obtain ⟨b3, o3, d3, hA3, hd3, i3⟩ := (show Rd wr v4.heap.size A3 _ by rw [hw]; exact Q34.out.drewN mk).int k (by rw [rowZ_len]; exact hlt)
              have hd2' : d2 = (V k : Int) := by have h1 := hd2.out; rw [row_at hlt] at h1; injection h1 with h1; exact h1.symm
              have hd3' : d3 = (F k : Int) := by have h1 := hd3.out; rw [row_at hlt] at h1; injection h1 with h1; exact h1.symm
              obtain ⟨q1, q2, q3, q4⟩ := HBD.out k hlt
              obtain ⟨r1, r2, r3⟩ := HRE.out k hlt
              have l1 := HSM.out k (by omega)
              have HN := Lib.hid (show sm F (k + 1) = sm F k + F k from rfl)
              rw [r1] at k1
              have k1' : wr.cell? ⟨b1, o1 + k * 3 + 1, none⟩ = some (.int .i64 ((K (k * 3 + 2) : Int) + (F k : Int))) := by rw [k1, Int.natCast_add]
              have a0 : (0 : Int) ≤ (k : Int) := by omega
              have a1 : (k : Int) < (n : Int) := by omega
              have e1 : decide ((k : Int) < (n : Int)) = true := decide_eq_true a1
              have e1' : decide (k < n) = true := decide_eq_true hlt
              subst hd2' hd3'
              subst hA1 hA2 hA3
              have l3 : sm F k + F k ≤ 540 := by omega
              rw [r1] at r2 q3
              clear hd2 hd3 hw k1 l1 r1
              generalize sm F k = x at *
              generalize F k = y at *
              generalize V k = z at *
              generalize K (k * 3 + 2) = u at *
              have f1 : IntKind.i64.wrap ((u : Int) + (y : Int)) = (u : Int) + (y : Int) := by rw [IntKind.wrap_i64]; omega
              have f2 : decide ((z : Int) < (u : Int) + (y : Int)) = false := decide_eq_false (by omega)
              have f3 : decide ((x : Int) + (y : Int) < (z : Int)) = false := decide_eq_false (by omega)
              go_wp2_with fail
              go_quiet (fail)
              go_wp2_with fail
              go_roundw
              case rel => exact ⟨k + 1, _, by omega, by rw [HN.out]; go_num, by go_num, by rw [HW.out]; exact World.drewN_drewN _ _ _⟩
              case measure => simp [intOf]; omega
            · have hkn : k = n := by omega
              subst hkn
              have e1 : decide ((k : Int) < (k : Int)) = false := decide_eq_false (by omega)
              have e1' : decide (k < k) = false := decide_eq_false (by omega)
              have C8 := Lib.hid (show Below w.heap.size w wr by rw [hw]; exact bdH C4.out mk)
              rw [HTOT.out]
              clear hlt hw
              go_wp2_with fail
              go_ret
              exact ⟨by simp, C8.out⟩
        · have hN : catN C = 0 := if_neg hv
          have HCt2 := HCt
          rw [hN] at HCt2
          have e1 : (vhE C != 0) = true := by simpa using hv
          clear hv hN HCt HAl HFi
          generalize vhE C = E0 at *
          generalize C.length = len at *
          go_wp2_with fail
          refine (HCt2.out w22 (R0.out.upH B22.out)).mono ?_
          rintro e v1 ⟨A1, c1, rfl, hr1, hb⟩
          have C1 := Lib.hid (B22.out.trans (hb.mono B22.out.size))
          clear hb hr1
          go_wp2_with fail
          go_ret
          exact ⟨rfl, C1.out⟩
      · have e2 : (beE m c a == 0) = false := by simpa using hE
        clear hk hE
        generalize beV m c a = x at *
        generalize beE m c a = EE at *
        have B0 := Lib.hid (Below.refl w.heap.size w)
        go_enter Tryd.func3, Tryd.ntmps3
        have B1 := Lib.hid (B0.out.alloc B0.out.size (.cells (rc b m c a) 23))
        have gx := heap_alloc_new w (.cells (rc b m c a) 23)
        have x0 := (blk_cell (j := 0) gx).trans (show _ = some (.int .i64 b) from rfl)
        have x1 := (blk_cell (j := 1) gx).trans (show _ = some (.int .i64 m) from rfl)
        have x2 := (blk_cell (j := 2) gx).trans (show _ = some (.int .i64 c) from rfl)
        have x3 := (blk_cell (j := 3) gx).trans (show _ = some (.int .i64 a) from rfl)
        have Gx := Lib.hid gx
        clear gx
        go_wp2_with fail
        go_quiet (fail)
        obtain ⟨wq, hwq⟩ : ∃ wq, World.drewN (w.alloc (.cells (rc b m c a) 23)) nq = wq := ⟨_, rfl⟩
        rw [hwq]
        have BQ := Lib.hid (show Below w.heap.size w wq by rw [← hwq]; exact bdH B1.out nq)
        clear hwq x0 x1 x2 x3
        go_wp2_with fail
        refine (HKB.out wq).mono ?_
        rintro e w21 ⟨rfl, hb⟩
        have B21 := Lib.hid (BQ.out.trans (hb.mono BQ.out.size))
        clear hb
        go_wp2_with fail
        refine (HBe.out w21).mono ?_
        rintro e w22 ⟨rfl, hb⟩
        have B22 := Lib.hid (B21.out.trans (hb.mono B21.out.size))
        clear hb
        by_cases hv : vhE C = 0
        · obtain ⟨K, n, F, V, hC1, hC2, hN, hV, hF, hn8, hdv, hbd, hre, htot⟩ := tc_rows hv
          have HCt2 := HCt
          have HAl2 := HAl
          have HFi2 := HFi
          have HVd2 := Lib.hid (fun A cp w h => ValidateDays_any A cp (c3L K n) (by rw [c3L_len]; omega) w h)
          rw [hC2, hN, hv] at HCt2
          rw [hV, hv] at HAl2
          rw [hF, hv] at HFi2
          rw [rowZ_len] at HAl2 HFi2
          rw [c3L_len, c3L_cells, hdv] at HVd2
          have HBD := Lib.hid hbd
          have HRE := Lib.hid hre
          have HTOT := Lib.hid htot
          have HSM := Lib.hid (sm_le (F := F) (c := 60) (n := n) fun i hi => (hbd i hi).1)
          clear hC1 hC2 hN hV hF hdv hbd hre htot hv HCt HAl HFi
          generalize C.length = len at *
          go_wp2_with fail
          refine (HCt2.out w22 (R0.out.upH B22.out)).mono ?_
          rintro e v1 ⟨A1, c1, rfl, hr1, hb⟩
          have C1 := Lib.hid (B22.out.trans (hb.mono B22.out.size))
          have Q11 := Lib.hid hr1
          clear hb hr1
          go_wp2_with fail
          refine (HAl2.out v1 (R0.out.upH C1.out)).mono ?_
          rintro e v2 ⟨A2, c2, rfl, hr2, hb⟩
          have C2 := Lib.hid (C1.out.trans (hb.mono C1.out.size))
          have Q12 := Lib.hid (Q11.out.upH hb)
          have Q22 := Lib.hid hr2
          clear hb hr2
          go_wp2_with fail
          refine (HFi2.out v2 (R0.out.upH C2.out)).mono ?_
          rintro e v3 ⟨A3, c3, rfl, hr3, hb⟩
          have C3' := Lib.hid (C2.out.trans (hb.mono C2.out.size))
          have Q13 := Lib.hid (Q12.out.upH hb)
          have Q23 := Lib.hid (Q22.out.upH hb)
          have Q33 := Lib.hid hr3
          clear hb hr3
          go_wp2_with fail
          refine (HVd2.out A1 c1 v3 Q13.out).mono ?_
          rintro e v4 ⟨rfl, hb⟩
          have C4 := Lib.hid (C3'.out.trans (hb.mono C3'.out.size))
          have Q14 := Lib.hid (Q13.out.upH hb)
          have Q24 := Lib.hid (Q23.out.upH hb)
          have Q34 := Lib.hid (Q33.out.upH hb)
          clear hb
          go_wp2_with fail
          go_loopw [25, 26] (fun v i wr => ∃ k mk : Nat, k ≤ n ∧ v = .int .i64 (sm F k : Nat) ∧ i = .int .i64 k ∧ wr = v4.drewN mk) (fun _ i _ => n - (intOf i).toNat)
          case atStart => exact ⟨0, 0, by omega, rfl, rfl, rfl⟩
          case round =>
            obtain ⟨k, mk, hk, rfl, rfl, hw⟩ := hrel
            have HW := Lib.hid hw
            by_cases hlt : k < n
            · obtain ⟨b1, o1, hA1, k0, k1, k2⟩ := (show Rd wr v4.heap.size A1 _ by rw [hw]; exact Q14.out.drewN mk).three k hlt
              obtain ⟨b2, o2, d2, hA2, hd2, i2⟩ := (show Rd wr v4.heap.size A2 _ by rw [hw]; exact Q24.out.drewN mk).int k (by rw [rowZ_len]; exact hlt)
              obtain ⟨b3, o3, d3, hA3, hd3, i3⟩ := (show Rd wr v4.heap.size A3 _ by rw [hw]; exact Q34.out.drewN mk).int k (by rw [rowZ_len]; exact hlt)
              have hd2' : d2 = (V k : Int) := by have h1 := hd2.out; rw [row_at hlt] at h1; injection h1 with h1; exact h1.symm
              have hd3' : d3 = (F k : Int) := by have h1 := hd3.out; rw [row_at hlt] at h1; injection h1 with h1; exact h1.symm
              obtain ⟨q1, q2, q3, q4⟩ := HBD.out k hlt
              obtain ⟨r1, r2, r3⟩ := HRE.out k hlt
              have l1 := HSM.out k (by omega)
              have HN := Lib.hid (show sm F (k + 1) = sm F k + F k from rfl)
              rw [r1] at k1
              have k1' : wr.cell? ⟨b1, o1 + k * 3 + 1, none⟩ = some (.int .i64 ((K (k * 3 + 2) : Int) + (F k : Int))) := by rw [k1, Int.natCast_add]
              have a0 : (0 : Int) ≤ (k : Int) := by omega
              have a1 : (k : Int) < (n : Int) := by omega
              have e1 : decide ((k : Int) < (n : Int)) = true := decide_eq_true a1
              have e1' : decide (k < n) = true := decide_eq_true hlt
              subst hd2' hd3'
              subst hA1 hA2 hA3
              have l3 : sm F k + F k ≤ 540 := by omega
              rw [r1] at r2 q3
              clear hd2 hd3 hw k1 l1 r1
              generalize sm F k = x at *
              generalize F k = y at *
              generalize V k = z at *
              generalize K (k * 3 + 2) = u at *
              have f1 : IntKind.i64.wrap ((u : Int) + (y : Int)) = (u : Int) + (y : Int) := by rw [IntKind.wrap_i64]; omega
              have f2 : decide ((z : Int) < (u : Int) + (y : Int)) = false := decide_eq_false (by omega)
              have f3 : decide ((x : Int) + (y : Int) < (z : Int)) = false := decide_eq_false (by omega)
              go_wp2_with fail
              go_quiet (fail)
              go_wp2_with fail
              go_roundw
              case rel => exact ⟨k + 1, _, by omega, by rw [HN.out]; go_num, by go_num, by rw [HW.out]; exact World.drewN_drewN _ _ _⟩
              case measure => simp [intOf]; omega
            · have hkn : k = n := by omega
              subst hkn
              have e1 : decide ((k : Int) < (k : Int)) = false := decide_eq_false (by omega)
              have e1' : decide (k < k) = false := decide_eq_false (by omega)
              have C8 := Lib.hid (show Below w.heap.size w wr by rw [hw]; exact bdH C4.out mk)
              rw [HTOT.out]
              clear hlt hw
              go_wp2_with fail
              go_ret
              exact ⟨by simp, C8.out⟩
        · have hN : catN C = 0 := if_neg hv
          have HCt2 := HCt
          rw [hN] at HCt2
          have e1 : (vhE C != 0) = true := by simpa using hv
          clear hv hN HCt HAl HFi
          generalize vhE C = E0 at *
          generalize C.length = len at *
          go_wp2_with fail
          refine (HCt2.out w22 (R0.out.upH B22.out)).mono ?_
          rintro e v1 ⟨A1, c1, rfl, hr1, hb⟩
          have C1 := Lib.hid (B22.out.trans (hb.mono B22.out.size))
          clear hb hr1
          go_wp2_with fail
          go_ret
          exact ⟨rfl, C1.out⟩
    · obtain ⟨⟨⟨m0, m1⟩, ⟨cc0, cc1⟩, a0, a1⟩, hlo, hx60, hl0, hod, hce, ham⟩ := best_facts hk
      have hE : beE m c a = 0 := if_pos (by unfold beK at hk; rw [Bool.and_eq_true] at hk; exact hk.1)
      rw [hk, hE] at HBe
      have HOD := Lib.hid hod
      have HAM := Lib.hid (fun w => AtMost_any (beV m c a) m c c w)
      rw [hce, ham] at HAM
      have HO := Lib.hid (fun n w => Odds_any n m c a w)
      clear hk hE hod hce ham
      unfold ratV at HAM HO
      generalize beV m c a = x at *
      have e3 : decide ((x : Int) < m + c - a) = false := decide_eq_false (by omega)
      have e4 : decide ((60 : Int) < (x : Int)) = false := decide_eq_false (by omega)
      have e4' : decide (60 < x) = false := decide_eq_false (by omega)
      have B0 := Lib.hid (Below.refl w.heap.size w)
      go_enter Tryd.func3, Tryd.ntmps3
      have B1 := Lib.hid (B0.out.alloc B0.out.size (.cells (rc b m c a) 23))
      have gx := heap_alloc_new w (.cells (rc b m c a) 23)
      have x0 := (blk_cell (j := 0) gx).trans (show _ = some (.int .i64 b) from rfl)
      have x1 := (blk_cell (j := 1) gx).trans (show _ = some (.int .i64 m) from rfl)
      have x2 := (blk_cell (j := 2) gx).trans (show _ = some (.int .i64 c) from rfl)
      have x3 := (blk_cell (j := 3) gx).trans (show _ = some (.int .i64 a) from rfl)
      have Gx := Lib.hid gx
      clear gx
      go_wp2_with fail
      go_quiet (fail)
      obtain ⟨wq, hwq⟩ : ∃ wq, World.drewN (w.alloc (.cells (rc b m c a) 23)) nq = wq := ⟨_, rfl⟩
      rw [hwq]
      have BQ := Lib.hid (show Below w.heap.size w wq by rw [← hwq]; exact bdH B1.out nq)
      clear hwq x0 x1 x2 x3
      go_wp2_with fail
      refine (HKB.out wq).mono ?_
      rintro e w21 ⟨rfl, hb⟩
      have B21 := Lib.hid (BQ.out.trans (hb.mono BQ.out.size))
      clear hb
      go_wp2_with fail
      refine (HBe.out w21).mono ?_
      rintro e w22 ⟨rfl, hb⟩
      have B22 := Lib.hid (B21.out.trans (hb.mono B21.out.size))
      clear hb
      go_wp2_with fail
      go_loopw [14] (fun i wr => ∃ n : Nat, i = .int .i64 n ∧ m + c - a < (n : Int) ∧ n ≤ 61 ∧ Below w.heap.size w wr) (fun i _ => 61 - (intOf i).toNat)
      case atStart => exact ⟨(m + c - a + 1).toNat, by rw [Int.toNat_of_nonneg (by omega)], by omega, by omega, B22.out⟩
      case round =>
        obtain ⟨n, rfl, hn, hn61, hb⟩ := hrel
        have BW := Lib.hid hb
        clear hb
        by_cases hlt : n ≤ 60
        · obtain ⟨g1, g2, g3, g4, g5⟩ := HOD.out n hn hlt
          have HO2 := Lib.hid (fun w => HO.out (n : Int) w)
          rw [g1] at HO2
          generalize odV (n : Int) m c a = p at *
          obtain ⟨p1, p2⟩ := p
          simp only at g2 g3 g4 g5 HO2
          have e5 : decide ((n : Int) ≤ 60) = true := decide_eq_true (by omega)
          have e5' : decide (n ≤ 60) = true := decide_eq_true hlt
          have e6 : decide ((p2 : Int) < 1) = false := decide_eq_false (by omega)
          have e6' : decide (p2 < 1) = false := decide_eq_false (by omega)
          have e7 : decide ((n : Int) ≤ (x : Int)) = decide (n ≤ x) := by rw [decide_eq_decide]; omega
          have e8 : decide ((p2 : Int) < (p1 : Int)) = decide (p2 < p1) := by rw [decide_eq_decide]; omega
          rw [g5] at e8
          obtain ⟨q, hq⟩ : ∃ q, decide (n ≤ x) = q := ⟨_, rfl⟩
          rw [hq] at g5 e7 e8
          clear g1
          go_wp2_with fail
          refine (HO2.out wr).mono ?_
          rintro e w41 ⟨rfl, hb⟩
          have B41 := Lib.hid (BW.out.trans (hb.mono BW.out.size))
          clear hb
          have B42 := Lib.hid (B41.out.alloc B41.out.size (.cells #[.int .i64 (p1 : Int), .int .i64 (p2 : Int)] 31))
          have gr := heap_alloc_new w41 (.cells #[.int .i64 (p1 : Int), .int .i64 (p2 : Int)] 31)
          have r0 := (blk_cell (j := 0) gr).trans (show _ = some (.int .i64 (p1 : Int)) from rfl)
          have r1 := (blk_cell (j := 1) gr).trans (show _ = some (.int .i64 (p2 : Int)) from rfl)
          have Gr := Lib.hid gr
          clear gr
          go_wp2_with fail
          go_roundw
          case rel => exact ⟨n + 1, by go_num, by omega, by omega, B42.out⟩
          case measure => simp [intOf]; omega
        · have hne : n = 61 := by omega
          subst hne
          have q1 := fun W => rat_in 1 1 W
          have q2 := fun W => rat_ne 1 1 W
          have q3 := guard_rat
          clear hlt
          go_wp2_with fail
          refine (HAM.out wr).mono ?_
          rintro e w61 ⟨rfl, hb⟩
          have B61 := Lib.hid (BW.out.trans (hb.mono BW.out.size))
          clear hb
          have B62 := Lib.hid (B61.out.alloc B61.out.size (.cells #[.int .i64 1, .int .i64 1] 31))
          have gt := heap_alloc_new w61 (.cells #[.int .i64 1, .int .i64 1] 31)
          have t0 := (blk_cell (j := 0) gt).trans (show _ = some (.int .i64 1) from rfl)
          have t1 := (blk_cell (j := 1) gt).trans (show _ = some (.int .i64 1) from rfl)
          have Gt := Lib.hid gt
          clear gt
          skip
          by_cases hv : vhE C = 0
          · obtain ⟨K, n, F, V, hC1, hC2, hN, hV, hF, hn8, hdv, hbd, hre, htot⟩ := tc_rows hv
            have HCt2 := HCt
            have HAl2 := HAl
            have HFi2 := HFi
            have HVd2 := Lib.hid (fun A cp w h => ValidateDays_any A cp (c3L K n) (by rw [c3L_len]; omega) w h)
            rw [hC2, hN, hv] at HCt2
            rw [hV, hv] at HAl2
            rw [hF, hv] at HFi2
            rw [rowZ_len] at HAl2 HFi2
            rw [c3L_len, c3L_cells, hdv] at HVd2
            have HBD := Lib.hid hbd
            have HRE := Lib.hid hre
            have HTOT := Lib.hid htot
            have HSM := Lib.hid (sm_le (F := F) (c := 60) (n := n) fun i hi => (hbd i hi).1)
            clear hC1 hC2 hN hV hF hdv hbd hre htot hv HCt HAl HFi
            generalize C.length = len at *
            go_wp2_with fail
            refine (HCt2.out (w61.alloc (.cells #[.int .i64 1, .int .i64 1] 31)) (R0.out.upH B62.out)).mono ?_
            rintro e v1 ⟨A1, c1, rfl, hr1, hb⟩
            have C1 := Lib.hid (B62.out.trans (hb.mono B62.out.size))
            have Q11 := Lib.hid hr1
            clear hb hr1
            go_wp2_with fail
            refine (HAl2.out v1 (R0.out.upH C1.out)).mono ?_
            rintro e v2 ⟨A2, c2, rfl, hr2, hb⟩
            have C2 := Lib.hid (C1.out.trans (hb.mono C1.out.size))
            have Q12 := Lib.hid (Q11.out.upH hb)
            have Q22 := Lib.hid hr2
            clear hb hr2
            go_wp2_with fail
            refine (HFi2.out v2 (R0.out.upH C2.out)).mono ?_
            rintro e v3 ⟨A3, c3, rfl, hr3, hb⟩
            have C3' := Lib.hid (C2.out.trans (hb.mono C2.out.size))
            have Q13 := Lib.hid (Q12.out.upH hb)
            have Q23 := Lib.hid (Q22.out.upH hb)
            have Q33 := Lib.hid hr3
            clear hb hr3
            go_wp2_with fail
            refine (HVd2.out A1 c1 v3 Q13.out).mono ?_
            rintro e v4 ⟨rfl, hb⟩
            have C4 := Lib.hid (C3'.out.trans (hb.mono C3'.out.size))
            have Q14 := Lib.hid (Q13.out.upH hb)
            have Q24 := Lib.hid (Q23.out.upH hb)
            have Q34 := Lib.hid (Q33.out.upH hb)
            clear hb
            go_wp2_with fail
            go_loopw [25, 26] (fun v i wr => ∃ k mk : Nat, k ≤ n ∧ v = .int .i64 (sm F k : Nat) ∧ i = .int .i64 k ∧ wr = v4.drewN mk) (fun _ i _ => n - (intOf i).toNat)
            case atStart => exact ⟨0, 0, by omega, rfl, rfl, rfl⟩
            case round =>
              obtain ⟨k, mk, hk, rfl, rfl, hw⟩ := hrel
              have HW := Lib.hid hw
              by_cases hlt : k < n
              · obtain ⟨b1, o1, hA1, k0, k1, k2⟩ := (show Rd wr v4.heap.size A1 _ by rw [hw]; exact Q14.out.drewN mk).three k hlt
                obtain ⟨b2, o2, d2, hA2, hd2, i2⟩ := (show Rd wr v4.heap.size A2 _ by rw [hw]; exact Q24.out.drewN mk).int k (by rw [rowZ_len]; exact hlt)
                obtain ⟨b3, o3, d3, hA3, hd3, i3⟩ := (show Rd wr v4.heap.size A3 _ by rw [hw]; exact Q34.out.drewN mk).int k (by rw [rowZ_len]; exact hlt)
                have hd2' : d2 = (V k : Int) := by have h1 := hd2.out; rw [row_at hlt] at h1; injection h1 with h1; exact h1.symm
                have hd3' : d3 = (F k : Int) := by have h1 := hd3.out; rw [row_at hlt] at h1; injection h1 with h1; exact h1.symm
                obtain ⟨q1, q2, q3, q4⟩ := HBD.out k hlt
                obtain ⟨r1, r2, r3⟩ := HRE.out k hlt
                have l1 := HSM.out k (by omega)
                have HN := Lib.hid (show sm F (k + 1) = sm F k + F k from rfl)
                rw [r1] at k1
                have k1' : wr.cell? ⟨b1, o1 + k * 3 + 1, none⟩ = some (.int .i64 ((K (k * 3 + 2) : Int) + (F k : Int))) := by rw [k1, Int.natCast_add]
                have a0 : (0 : Int) ≤ (k : Int) := by omega
                have a1 : (k : Int) < (n : Int) := by omega
                have e1 : decide ((k : Int) < (n : Int)) = true := decide_eq_true a1
                have e1' : decide (k < n) = true := decide_eq_true hlt
                subst hd2' hd3'
                subst hA1 hA2 hA3
                have l3 : sm F k + F k ≤ 540 := by omega
                rw [r1] at r2 q3
                clear hd2 hd3 hw k1 l1 r1
                generalize sm F k = x at *
                generalize F k = y at *
                generalize V k = z at *
                generalize K (k * 3 + 2) = u at *
                have f1 : IntKind.i64.wrap ((u : Int) + (y : Int)) = (u : Int) + (y : Int) := by rw [IntKind.wrap_i64]; omega
                have f2 : decide ((z : Int) < (u : Int) + (y : Int)) = false := decide_eq_false (by omega)
                have f3 : decide ((x : Int) + (y : Int) < (z : Int)) = false := decide_eq_false (by omega)
                go_wp2_with fail
                go_quiet (fail)
                go_wp2_with fail
                go_roundw
                case rel => exact ⟨k + 1, _, by omega, by rw [HN.out]; go_num, by go_num, by rw [HW.out]; exact World.drewN_drewN _ _ _⟩
                case measure => simp [intOf]; omega
              · have hkn : k = n := by omega
                subst hkn
                have e1 : decide ((k : Int) < (k : Int)) = false := decide_eq_false (by omega)
                have e1' : decide (k < k) = false := decide_eq_false (by omega)
                have C8 := Lib.hid (show Below w.heap.size w wr by rw [hw]; exact bdH C4.out mk)
                rw [HTOT.out]
                clear hlt hw
                go_wp2_with fail
                go_ret
                exact ⟨by simp, C8.out⟩
          · have hN : catN C = 0 := if_neg hv
            have HCt2 := HCt
            rw [hN] at HCt2
            have e1 : (vhE C != 0) = true := by simpa using hv
            clear hv hN HCt HAl HFi
            generalize vhE C = E0 at *
            generalize C.length = len at *
            go_wp2_with fail
            refine (HCt2.out (w61.alloc (.cells #[.int .i64 1, .int .i64 1] 31)) (R0.out.upH B62.out)).mono ?_
            rintro e v1 ⟨A1, c1, rfl, hr1, hb⟩
            have C1 := Lib.hid (B62.out.trans (hb.mono B62.out.size))
            clear hb hr1
            go_wp2_with fail
            go_ret
            exact ⟨rfl, C1.out⟩
end Go.Proofs.YtegehfcnclpdeabDoor

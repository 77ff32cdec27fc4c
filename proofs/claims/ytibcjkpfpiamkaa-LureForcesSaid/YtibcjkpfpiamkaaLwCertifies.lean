/-
  The walks of the laws LureCertifies: they return true. Conditions: the game and the lists can be read.
-/
import Derived.Test.YtibcjkpfpiamkaaLwTraps
namespace Go.Proofs.Ytibcjkpfpiamkaa
open Go.RowKit
set_option linter.unusedVariables false

theorem free_set (G : Gm) (goal : Nat) (h16 : G.own.length ≤ 16) : setL G.own.length (lst (freeN G goal)) = true := by
  unfold lst
  rw [listK_high (fun j hj => high_bits (free_lt G goal) hj) h16]
  exact setL_listK _ _
theorem gat_lst {x n : Nat} (hx : x < 2 ^ n) (hn : n ≤ 16) : gatN (lst x) = x := by
  apply Nat.eq_of_testBit_eq
  intro j
  unfold gatN
  rcases Nat.lt_or_ge j 16 with h | h
  · rw [bitK_test _ _ _ (by omega)]
    unfold lst
    exact memB_listK _ _ _ h
  · have h2 : x.testBit j = false := high_bits (Nat.lt_of_lt_of_le hx (Nat.pow_le_pow_right (by omega) hn)) h
    rw [h2]
    rcases Nat.lt_or_ge j 32 with h3 | h3
    · rw [bitK_test _ _ _ h3]
      cases hb : memB (lst x) j
      · rfl
      · obtain ⟨i, hi, hi2, _⟩ := listK_mem (memB_iff.1 hb)
        omega
    · exact high_bits (bitK_lt _ 32) h3
theorem cert_free {G : Gm} {L : List Int} (h : askE G L = 0) : ctE G L (freL G L) = 0 := by
  obtain ⟨hG, hs⟩ := askE_zero h
  have H := gE_zero hG
  have h16 := H.le
  have hg : gatN L < 2 ^ G.own.length := gat_lt hs (by omega)
  unfold freL
  rw [if_pos h]
  rw [ct_val h (free_set G _ h16), gat_lst (free_lt G _) h16, free_trap H hg]
  rfl
theorem cert_rank {G : Gm} {L : List Int} (h : askE G L = 0) : crE G L (ranL G L) = 0 := by
  obtain ⟨hG, hs⟩ := askE_zero h
  have h16 := (gE_zero hG).le
  unfold ranL
  rw [if_pos h]
  exact rk_accepted h (gat_lt hs (by omega)) h16
set_option maxRecDepth 4000 in
set_option maxHeartbeats 3200000 in
theorem LureCertifies_walk (g : Gv) (A : Option Addr) (c : Nat) (L : List Int) (w : World) (hr : RdG w w.heap.size g) (hf : Gfit g) (hqL : Rd w w.heap.size A (ints L)) (hlL : L.length ≤ c) (hcL : c ≤ maxLen) :
    Calls Try.prog 8 #[g.v, .slice A L.length c] w fun e w' => e = .returned (.bool true) ∧ Below w.heap.size w w' := by
  obtain ⟨W, hW, p0, p1, hz, hb, hr1⟩ := box_game w g 25 hr
  have B0 := Lib.hid hb
  have RG0 := Lib.hid hr1
  have HLg := Lib.hid (Large_any g W hr1 hf)
  have L_0 := Lib.hid (hqL.up hb)
  have hmL : L.length ≤ 9223372036854775807 := by unfold maxLen at hcL; omega
  clear hr hb hr1 hqL hlL hcL
  cases hbl : largeB g
  · obtain ⟨n100, r100, rr100⟩ := large_fit hbl
    rw [hbl] at HLg
    by_cases hlongL : 100 < L.length
    · have eL : decide ((100 : Int) < (L.length : Int)) = true := by rw [decide_eq_true_eq]; omega
      clear hlongL n100 r100 rr100
      clear hf hbl
      unfold Gv.v at HLg ⊢
      obtain ⟨A0, c0, own, A1, c1, rs⟩ := g
      simp only at hW p0 p1 HLg ⊢
      go_enter Try.func8, Try.ntmps8
      go_wp2_with fail
      refine (HLg.out).mono ?_
      rintro e w1 ⟨rfl, hb⟩
      have B1 := Lib.hid (B0.out.trans (hb.mono B0.out.size))
      clear hb
      go_wp2_with fail
      refine (known_ok w1).mono ?_
      rintro e w2 ⟨rfl, hb⟩
      have B2 := Lib.hid (B1.out.trans (hb.mono B1.out.size))
      clear hb
      go_wp2_with fail
      go_ret
      exact ⟨rfl, B2.out⟩
    · have eL : decide ((100 : Int) < (L.length : Int)) = false := by rw [decide_eq_false_iff_not]; omega
      have h100L : L.length ≤ 100 := by omega
      clear hlongL
      have C1 := Lib.hid (fun w h q => Ranks_any g A c L w h hf q hmL)
      have C2 := Lib.hid (fun w h q => Free_any g A c L w h hf q hmL)
      by_cases hV : askE g.G L = 0
      · have K1 := Lib.hid (fun A2 c2 w h q r => CheckRanks_any g A c L A2 c2 (ranL g.G L) w h hf q hmL r (by have := ran_le g.G L (fun h => (gE_zero h).le); omega))
        have K2 := Lib.hid (fun A2 c2 w h q r => CheckTrap_any g A c L A2 c2 (freL g.G L) w h hf q hmL r (by have := fre_le g.G L; omega))
        rw [cert_rank hV] at K1
        rw [cert_free hV] at K2
        rw [hV] at C1 C2
        clear hf hbl n100 r100 rr100 hV
        generalize ranL g.G L = X at *
        generalize freL g.G L = Y at *
        unfold Gv.v at HLg K1 K2 C1 C2 ⊢
        obtain ⟨A0, c0, own, A1, c1, rs⟩ := g
        simp only at hW p0 p1 HLg K1 K2 C1 C2 ⊢
        go_enter Try.func8, Try.ntmps8
        go_wp2_with fail
        refine (HLg.out).mono ?_
        rintro e w1 ⟨rfl, hb⟩
        have B1 := Lib.hid (B0.out.trans (hb.mono B0.out.size))
        have RG1 := Lib.hid (RG0.out.up hb)
        have L_1 := Lib.hid (L_0.out.up hb)
        have q0_1 := cell_keep p0 hb hz
        have q1_1 := cell_keep p1 hb hz
        have z1 : w.heap.size < w1.heap.size := Nat.lt_of_lt_of_le hz hb.size
        clear p0 p1 hz hW
        clear hb
        go_wp2_with fail
        refine (C1.out w1 RG1.out L_1.out).mono ?_
        rintro e w2 ⟨A3, c3, rfl, hc3, hfA3, hrA3, hb⟩
        have B2 := Lib.hid (B1.out.trans (hb.mono B1.out.size))
        have RG2 := Lib.hid (RG1.out.up hb)
        have L_2 := Lib.hid (L_1.out.up hb)
        have q0_2 := cell_keep q0_1 hb z1
        have q1_2 := cell_keep q1_1 hb z1
        have z2 : w.heap.size < w2.heap.size := Nat.lt_of_lt_of_le z1 hb.size
        clear q0_1 q1_1 z1
        clear hb
        have X_2 := Lib.hid hrA3
        clear hfA3 hrA3
        go_wp2_with fail
        refine (C2.out w2 RG2.out L_2.out).mono ?_
        rintro e w3 ⟨A4, c4, rfl, hc4, hfA4, hrA4, hb⟩
        have B3 := Lib.hid (B2.out.trans (hb.mono B2.out.size))
        have RG3 := Lib.hid (RG2.out.up hb)
        have L_3 := Lib.hid (L_2.out.up hb)
        have X_3 := Lib.hid (X_2.out.up hb)
        have q0_3 := cell_keep q0_2 hb z2
        have q1_3 := cell_keep q1_2 hb z2
        have z3 : w.heap.size < w3.heap.size := Nat.lt_of_lt_of_le z2 hb.size
        clear q0_2 q1_2 z2
        clear hb
        have Y_3 := Lib.hid hrA4
        clear hfA4 hrA4
        go_wp2_with fail
        refine (K1.out A3 c3 w3 RG3.out L_3.out X_3.out).mono ?_
        rintro e w4 ⟨rfl, hb⟩
        have B4 := Lib.hid (B3.out.trans (hb.mono B3.out.size))
        have RG4 := Lib.hid (RG3.out.up hb)
        have L_4 := Lib.hid (L_3.out.up hb)
        have X_4 := Lib.hid (X_3.out.up hb)
        have Y_4 := Lib.hid (Y_3.out.up hb)
        have q0_4 := cell_keep q0_3 hb z3
        have q1_4 := cell_keep q1_3 hb z3
        have z4 : w.heap.size < w4.heap.size := Nat.lt_of_lt_of_le z3 hb.size
        clear q0_3 q1_3 z3
        clear hb
        go_wp2_with fail
        refine (K2.out A4 c4 w4 RG4.out L_4.out Y_4.out).mono ?_
        rintro e w5 ⟨rfl, hb⟩
        have B5 := Lib.hid (B4.out.trans (hb.mono B4.out.size))
        have RG5 := Lib.hid (RG4.out.up hb)
        have L_5 := Lib.hid (L_4.out.up hb)
        have X_5 := Lib.hid (X_4.out.up hb)
        have Y_5 := Lib.hid (Y_4.out.up hb)
        have q0_5 := cell_keep q0_4 hb z4
        have q1_5 := cell_keep q1_4 hb z4
        have z5 : w.heap.size < w5.heap.size := Nat.lt_of_lt_of_le z4 hb.size
        clear q0_4 q1_4 z4
        clear hb
        go_wp2_with fail
        refine (known_ok w5).mono ?_
        rintro e w6 ⟨rfl, hb⟩
        have B6 := Lib.hid (B5.out.trans (hb.mono B5.out.size))
        have RG6 := Lib.hid (RG5.out.up hb)
        have L_6 := Lib.hid (L_5.out.up hb)
        have X_6 := Lib.hid (X_5.out.up hb)
        have Y_6 := Lib.hid (Y_5.out.up hb)
        have q0_6 := cell_keep q0_5 hb z5
        have q1_6 := cell_keep q1_5 hb z5
        have z6 : w.heap.size < w6.heap.size := Nat.lt_of_lt_of_le z5 hb.size
        clear q0_5 q1_5 z5
        clear hb
        go_wp2_with fail
        go_ret
        exact ⟨rfl, B6.out⟩
      · obtain ⟨V, hVe⟩ : ∃ V, askE g.G L = V := ⟨_, rfl⟩
        rw [hVe] at hV C1 C2
        have hb1 : (V == 0) = false := by simpa using hV
        have hb2 : (V != 0) = true := by simpa using hV
        have hb3 : (V != V) = false := by simp
        clear hf hbl n100 r100 rr100 hV hVe
        generalize ranL g.G L = X at *
        generalize freL g.G L = Y at *
        unfold Gv.v at HLg C1 C2 ⊢
        obtain ⟨A0, c0, own, A1, c1, rs⟩ := g
        simp only at hW p0 p1 HLg C1 C2 ⊢
        go_enter Try.func8, Try.ntmps8
        go_wp2_with fail
        refine (HLg.out).mono ?_
        rintro e w1 ⟨rfl, hb⟩
        have B1 := Lib.hid (B0.out.trans (hb.mono B0.out.size))
        have RG1 := Lib.hid (RG0.out.up hb)
        have L_1 := Lib.hid (L_0.out.up hb)
        have q0_1 := cell_keep p0 hb hz
        have q1_1 := cell_keep p1 hb hz
        have z1 : w.heap.size < w1.heap.size := Nat.lt_of_lt_of_le hz hb.size
        clear p0 p1 hz hW
        clear hb
        go_wp2_with fail
        refine (C1.out w1 RG1.out L_1.out).mono ?_
        rintro e w2 ⟨A3, c3, rfl, hc3, hfA3, hrA3, hb⟩
        have B2 := Lib.hid (B1.out.trans (hb.mono B1.out.size))
        have RG2 := Lib.hid (RG1.out.up hb)
        have L_2 := Lib.hid (L_1.out.up hb)
        have q0_2 := cell_keep q0_1 hb z1
        have q1_2 := cell_keep q1_1 hb z1
        have z2 : w.heap.size < w2.heap.size := Nat.lt_of_lt_of_le z1 hb.size
        clear q0_1 q1_1 z1
        clear hb
        have X_2 := Lib.hid hrA3
        clear hfA3 hrA3
        go_wp2_with fail
        refine (C2.out w2 RG2.out L_2.out).mono ?_
        rintro e w3 ⟨A4, c4, rfl, hc4, hfA4, hrA4, hb⟩
        have B3 := Lib.hid (B2.out.trans (hb.mono B2.out.size))
        have RG3 := Lib.hid (RG2.out.up hb)
        have L_3 := Lib.hid (L_2.out.up hb)
        have X_3 := Lib.hid (X_2.out.up hb)
        have q0_3 := cell_keep q0_2 hb z2
        have q1_3 := cell_keep q1_2 hb z2
        have z3 : w.heap.size < w3.heap.size := Nat.lt_of_lt_of_le z2 hb.size
        clear q0_2 q1_2 z2
        clear hb
        have Y_3 := Lib.hid hrA4
        clear hfA4 hrA4
        go_wp2_with fail
        refine (known_ok w3).mono ?_
        rintro e w4 ⟨rfl, hb⟩
        have B4 := Lib.hid (B3.out.trans (hb.mono B3.out.size))
        have RG4 := Lib.hid (RG3.out.up hb)
        have L_4 := Lib.hid (L_3.out.up hb)
        have X_4 := Lib.hid (X_3.out.up hb)
        have Y_4 := Lib.hid (Y_3.out.up hb)
        have q0_4 := cell_keep q0_3 hb z3
        have q1_4 := cell_keep q1_3 hb z3
        have z4 : w.heap.size < w4.heap.size := Nat.lt_of_lt_of_le z3 hb.size
        clear q0_3 q1_3 z3
        clear hb
        go_wp2_with fail
        go_ret
        exact ⟨rfl, B4.out⟩
  · rw [hbl] at HLg
    clear hf hbl
    unfold Gv.v at HLg ⊢
    obtain ⟨A0, c0, own, A1, c1, rs⟩ := g
    simp only at hW p0 p1 HLg ⊢
    go_enter Try.func8, Try.ntmps8
    go_wp2_with fail
    refine (HLg.out).mono ?_
    rintro e w1 ⟨rfl, hb⟩
    have B1 := Lib.hid (B0.out.trans (hb.mono B0.out.size))
    clear hb
    go_wp2_with fail
    refine (known_ok w1).mono ?_
    rintro e w2 ⟨rfl, hb⟩
    have B2 := Lib.hid (B1.out.trans (hb.mono B1.out.size))
    clear hb
    go_wp2_with fail
    go_ret
    exact ⟨rfl, B2.out⟩
end Go.Proofs.Ytibcjkpfpiamkaa

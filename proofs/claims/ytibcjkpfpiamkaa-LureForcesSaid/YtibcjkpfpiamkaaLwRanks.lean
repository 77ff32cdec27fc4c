/-
  The walks of the laws LureRanks: they return true. Conditions: the game and the lists can be read.
-/
import Derived.Test.YtibcjkpfpiamkaaLwBefore
namespace Go.Proofs.Ytibcjkpfpiamkaa
open Go.RowKit
set_option linter.unusedVariables false

theorem lst_len {x n : Nat} (hx : x < 2 ^ n) (hn : n ≤ 16) : (lst x).length = cntK x.testBit n := by
  rw [← cntK_list]
  unfold lst
  rw [listK_high (fun j hj => high_bits hx hj) hn]
theorem ran_le (G : Gm) (L : List Int) (h : gE G = 0 → G.own.length ≤ 16) : (ranL G L).length ≤ 16 := by
  unfold ranL
  split
  · rename_i h1
    rw [rkL_len]; exact h (askE_zero h1).1
  · simp
theorem win_le (G : Gm) (L : List Int) : (winL G L).length ≤ 16 := by
  unfold winL
  split
  · exact lst_le _
  · simp
theorem fre_le (G : Gm) (L : List Int) : (freL G L).length ≤ 16 := by
  unfold freL
  split
  · exact lst_le _
  · simp
theorem wit_le (G : Gm) (L : List Int) (mv : Int) : (witL G L mv).length ≤ 16 := by
  unfold witL
  split
  · exact lst_le _
  · simp
theorem parts_len (G : Gm) (L : List Int) : (winL G L).length + (freL G L).length = (ranL G L).length := by
  unfold winL freL ranL
  by_cases h : askE G L = 0
  · rw [if_pos h, if_pos h, if_pos h]
    obtain ⟨h1, h2⟩ := askE_zero h
    have h16 := (gE_zero h1).le
    have hg : gatN L < 2 ^ G.own.length := gat_lt h2 (by omega)
    rw [rkL_len, lst_len (show wonN G (gatN L) < 2 ^ G.own.length from lv_lt hg _) h16, lst_len (free_lt G _) h16]
    exact won_free G _
  · rw [if_neg h, if_neg h, if_neg h]; rfl
set_option maxRecDepth 4000 in
set_option maxHeartbeats 3200000 in
theorem LureRanks_walk (g : Gv) (A : Option Addr) (c : Nat) (L : List Int) (w : World) (hr : RdG w w.heap.size g) (hf : Gfit g) (hqL : Rd w w.heap.size A (ints L)) (hlL : L.length ≤ c) (hcL : c ≤ maxLen) :
    Calls Try.prog 4 #[g.v, .slice A L.length c] w fun e w' => e = .returned (.bool true) ∧ Below w.heap.size w w' := by
  obtain ⟨W, hW, p0, p1, hz, hb, hr1⟩ := box_game w g 25 hr
  have B0 := Lib.hid hb
  have RG0 := Lib.hid hr1
  have HLg := Lib.hid (Large_any g W hr1 hf)
  have L_0 := Lib.hid (hqL.up hb)
  have hmL : L.length ≤ 9223372036854775807 := by unfold maxLen at hcL; omega
  clear hr hb hr1 hqL hlL hcL
  cases hbl : largeB g
  · obtain ⟨n100, r100, rr100⟩ := large_fit hbl
    rw [hbl] at HLg
    by_cases hlongL : 100 < L.length
    · have eL : decide ((100 : Int) < (L.length : Int)) = true := by rw [decide_eq_true_eq]; omega
      clear hlongL n100 r100 rr100
      clear hf hbl
      unfold Gv.v at HLg ⊢
      obtain ⟨A0, c0, own, A1, c1, rs⟩ := g
      simp only at hW p0 p1 HLg ⊢
      go_enter Try.func4, Try.ntmps4
      go_wp2_with fail
      refine (HLg.out).mono ?_
      rintro e w1 ⟨rfl, hb⟩
      have B1 := Lib.hid (B0.out.trans (hb.mono B0.out.size))
      clear hb
      go_wp2_with fail
      refine (known_ok w1).mono ?_
      rintro e w2 ⟨rfl, hb⟩
      have B2 := Lib.hid (B1.out.trans (hb.mono B1.out.size))
      clear hb
      go_wp2_with fail
      go_ret
      exact ⟨rfl, B2.out⟩
    · have eL : decide ((100 : Int) < (L.length : Int)) = false := by rw [decide_eq_false_iff_not]; omega
      have h100L : L.length ≤ 100 := by omega
      clear hlongL
      have C1 := Lib.hid (fun w h q => Ranks_any g A c L w h hf q hmL)
      have C2 := Lib.hid (fun w h q => rRanks_any g A c L w h hf q hmL)
      have C3 := Lib.hid (fun w h q => Wins_any g A c L w h hf q hmL)
      have C4 := Lib.hid (fun w h q => rWins_any g A c L w h hf q hmL)
      have C5 := Lib.hid (fun w h q => Free_any g A c L w h hf q hmL)
      have C6 := Lib.hid (fun w h q => rFree_any g A c L w h hf q hmL)
      have hx := ran_le g.G L (fun h => (gE_zero h).le)
      have hy := win_le g.G L
      have hz2 := fre_le g.G L
      have hp := parts_len g.G L
      clear hf hbl n100 r100 rr100
      generalize ranL g.G L = X at *
      generalize winL g.G L = Y at *
      generalize freL g.G L = Z at *
      generalize askE g.G L = E at *
      unfold Gv.v at HLg C1 C2 C3 C4 C5 C6 ⊢
      obtain ⟨A0, c0, own, A1, c1, rs⟩ := g
      simp only at hW p0 p1 HLg C1 C2 C3 C4 C5 C6 ⊢
      go_enter Try.func4, Try.ntmps4
      go_wp2_with fail
      refine (HLg.out).mono ?_
      rintro e w1 ⟨rfl, hb⟩
      have B1 := Lib.hid (B0.out.trans (hb.mono B0.out.size))
      have RG1 := Lib.hid (RG0.out.up hb)
      have L_1 := Lib.hid (L_0.out.up hb)
      have q0_1 := cell_keep p0 hb hz
      have q1_1 := cell_keep p1 hb hz
      have z1 : w.heap.size < w1.heap.size := Nat.lt_of_lt_of_le hz hb.size
      clear p0 p1 hz hW
      clear hb
      have hs1 : IntKind.i64.wrap ((Y.length : Int) + (Z.length : Int)) = (Y.length : Int) + (Z.length : Int) := by rw [IntKind.wrap_i64]; omega
      have hs2 : ((Y.length : Int) + (Z.length : Int) == (X.length : Int)) = true := by rw [beq_iff_eq]; omega
      have hs3 : (Y.length + Z.length == X.length) = true := by rw [beq_iff_eq]; omega
      clear hp
      go_wp2_with fail
      refine (C1.out w1 RG1.out L_1.out).mono ?_
      rintro e w2 ⟨A3, c3, rfl, hc3, hfA3, hrA3, hb⟩
      have B2 := Lib.hid (B1.out.trans (hb.mono B1.out.size))
      have RG2 := Lib.hid (RG1.out.up hb)
      have L_2 := Lib.hid (L_1.out.up hb)
      have q0_2 := cell_keep q0_1 hb z1
      have q1_2 := cell_keep q1_1 hb z1
      have z2 : w.heap.size < w2.heap.size := Nat.lt_of_lt_of_le z1 hb.size
      clear q0_1 q1_1 z1
      clear hb
      have X_2 := Lib.hid hrA3
      clear hfA3 hrA3
      go_wp2_with fail
      refine (C2.out w2 RG2.out L_2.out).mono ?_
      rintro e w3 ⟨A4, c4, rfl, hc4, hfA4, hrA4, hb⟩
      have B3 := Lib.hid (B2.out.trans (hb.mono B2.out.size))
      have RG3 := Lib.hid (RG2.out.up hb)
      have L_3 := Lib.hid (L_2.out.up hb)
      have X_3 := Lib.hid (X_2.out.up hb)
      have q0_3 := cell_keep q0_2 hb z2
      have q1_3 := cell_keep q1_2 hb z2
      have z3 : w.heap.size < w3.heap.size := Nat.lt_of_lt_of_le z2 hb.size
      clear q0_2 q1_2 z2
      clear hb
      have X2_3 := Lib.hid hrA4
      clear hfA4 hrA4
      go_wp2_with fail
      refine (C3.out w3 RG3.out L_3.out).mono ?_
      rintro e w4 ⟨A5, c5, rfl, hc5, hfA5, hrA5, hb⟩
      have B4 := Lib.hid (B3.out.trans (hb.mono B3.out.size))
      have RG4 := Lib.hid (RG3.out.up hb)
      have L_4 := Lib.hid (L_3.out.up hb)
      have X_4 := Lib.hid (X_3.out.up hb)
      have X2_4 := Lib.hid (X2_3.out.up hb)
      have q0_4 := cell_keep q0_3 hb z3
      have q1_4 := cell_keep q1_3 hb z3
      have z4 : w.heap.size < w4.heap.size := Nat.lt_of_lt_of_le z3 hb.size
      clear q0_3 q1_3 z3
      clear hb
      have Y_4 := Lib.hid hrA5
      clear hfA5 hrA5
      go_wp2_with fail
      refine (C4.out w4 RG4.out L_4.out).mono ?_
      rintro e w5 ⟨A6, c6, rfl, hc6, hfA6, hrA6, hb⟩
      have B5 := Lib.hid (B4.out.trans (hb.mono B4.out.size))
      have RG5 := Lib.hid (RG4.out.up hb)
      have L_5 := Lib.hid (L_4.out.up hb)
      have X_5 := Lib.hid (X_4.out.up hb)
      have X2_5 := Lib.hid (X2_4.out.up hb)
      have Y_5 := Lib.hid (Y_4.out.up hb)
      have q0_5 := cell_keep q0_4 hb z4
      have q1_5 := cell_keep q1_4 hb z4
      have z5 : w.heap.size < w5.heap.size := Nat.lt_of_lt_of_le z4 hb.size
      clear q0_4 q1_4 z4
      clear hb
      have Y2_5 := Lib.hid hrA6
      clear hfA6 hrA6
      go_wp2_with fail
      refine (C5.out w5 RG5.out L_5.out).mono ?_
      rintro e w6 ⟨A7, c7, rfl, hc7, hfA7, hrA7, hb⟩
      have B6 := Lib.hid (B5.out.trans (hb.mono B5.out.size))
      have RG6 := Lib.hid (RG5.out.up hb)
      have L_6 := Lib.hid (L_5.out.up hb)
      have X_6 := Lib.hid (X_5.out.up hb)
      have X2_6 := Lib.hid (X2_5.out.up hb)
      have Y_6 := Lib.hid (Y_5.out.up hb)
      have Y2_6 := Lib.hid (Y2_5.out.up hb)
      have q0_6 := cell_keep q0_5 hb z5
      have q1_6 := cell_keep q1_5 hb z5
      have z6 : w.heap.size < w6.heap.size := Nat.lt_of_lt_of_le z5 hb.size
      clear q0_5 q1_5 z5
      clear hb
      have Z_6 := Lib.hid hrA7
      clear hfA7 hrA7
      go_wp2_with fail
      refine (C6.out w6 RG6.out L_6.out).mono ?_
      rintro e w7 ⟨A8, c8, rfl, hc8, hfA8, hrA8, hb⟩
      have B7 := Lib.hid (B6.out.trans (hb.mono B6.out.size))
      have RG7 := Lib.hid (RG6.out.up hb)
      have L_7 := Lib.hid (L_6.out.up hb)
      have X_7 := Lib.hid (X_6.out.up hb)
      have X2_7 := Lib.hid (X2_6.out.up hb)
      have Y_7 := Lib.hid (Y_6.out.up hb)
      have Y2_7 := Lib.hid (Y2_6.out.up hb)
      have Z_7 := Lib.hid (Z_6.out.up hb)
      have q0_7 := cell_keep q0_6 hb z6
      have q1_7 := cell_keep q1_6 hb z6
      have z7 : w.heap.size < w7.heap.size := Nat.lt_of_lt_of_le z6 hb.size
      clear q0_6 q1_6 z6
      clear hb
      have Z2_7 := Lib.hid hrA8
      clear hfA8 hrA8
      go_wp2_with fail
      refine (Same_b A3 A4 c3 c4 X _ _ w7 rfl rfl X_7.out X2_7.out (by omega)).mono ?_
      rintro e w8 ⟨rfl, hb⟩
      have B8 := Lib.hid (B7.out.trans (hb.mono B7.out.size))
      have RG8 := Lib.hid (RG7.out.up hb)
      have L_8 := Lib.hid (L_7.out.up hb)
      have X_8 := Lib.hid (X_7.out.up hb)
      have X2_8 := Lib.hid (X2_7.out.up hb)
      have Y_8 := Lib.hid (Y_7.out.up hb)
      have Y2_8 := Lib.hid (Y2_7.out.up hb)
      have Z_8 := Lib.hid (Z_7.out.up hb)
      have Z2_8 := Lib.hid (Z2_7.out.up hb)
      have q0_8 := cell_keep q0_7 hb z7
      have q1_8 := cell_keep q1_7 hb z7
      have z8 : w.heap.size < w8.heap.size := Nat.lt_of_lt_of_le z7 hb.size
      clear q0_7 q1_7 z7
      clear hb
      go_wp2_with fail
      refine (Same_b A5 A6 c5 c6 Y _ _ w8 rfl rfl Y_8.out Y2_8.out (by omega)).mono ?_
      rintro e w9 ⟨rfl, hb⟩
      have B9 := Lib.hid (B8.out.trans (hb.mono B8.out.size))
      have RG9 := Lib.hid (RG8.out.up hb)
      have L_9 := Lib.hid (L_8.out.up hb)
      have X_9 := Lib.hid (X_8.out.up hb)
      have X2_9 := Lib.hid (X2_8.out.up hb)
      have Y_9 := Lib.hid (Y_8.out.up hb)
      have Y2_9 := Lib.hid (Y2_8.out.up hb)
      have Z_9 := Lib.hid (Z_8.out.up hb)
      have Z2_9 := Lib.hid (Z2_8.out.up hb)
      have q0_9 := cell_keep q0_8 hb z8
      have q1_9 := cell_keep q1_8 hb z8
      have z9 : w.heap.size < w9.heap.size := Nat.lt_of_lt_of_le z8 hb.size
      clear q0_8 q1_8 z8
      clear hb
      go_wp2_with fail
      refine (Same_b A7 A8 c7 c8 Z _ _ w9 rfl rfl Z_9.out Z2_9.out (by omega)).mono ?_
      rintro e w10 ⟨rfl, hb⟩
      have B10 := Lib.hid (B9.out.trans (hb.mono B9.out.size))
      have RG10 := Lib.hid (RG9.out.up hb)
      have L_10 := Lib.hid (L_9.out.up hb)
      have X_10 := Lib.hid (X_9.out.up hb)
      have X2_10 := Lib.hid (X2_9.out.up hb)
      have Y_10 := Lib.hid (Y_9.out.up hb)
      have Y2_10 := Lib.hid (Y2_9.out.up hb)
      have Z_10 := Lib.hid (Z_9.out.up hb)
      have Z2_10 := Lib.hid (Z2_9.out.up hb)
      have q0_10 := cell_keep q0_9 hb z9
      have q1_10 := cell_keep q1_9 hb z9
      have z10 : w.heap.size < w10.heap.size := Nat.lt_of_lt_of_le z9 hb.size
      clear q0_9 q1_9 z9
      clear hb
      go_wp2_with fail
      refine (known_ok w10).mono ?_
      rintro e w11 ⟨rfl, hb⟩
      have B11 := Lib.hid (B10.out.trans (hb.mono B10.out.size))
      have RG11 := Lib.hid (RG10.out.up hb)
      have L_11 := Lib.hid (L_10.out.up hb)
      have X_11 := Lib.hid (X_10.out.up hb)
      have X2_11 := Lib.hid (X2_10.out.up hb)
      have Y_11 := Lib.hid (Y_10.out.up hb)
      have Y2_11 := Lib.hid (Y2_10.out.up hb)
      have Z_11 := Lib.hid (Z_10.out.up hb)
      have Z2_11 := Lib.hid (Z2_10.out.up hb)
      have q0_11 := cell_keep q0_10 hb z10
      have q1_11 := cell_keep q1_10 hb z10
      have z11 : w.heap.size < w11.heap.size := Nat.lt_of_lt_of_le z10 hb.size
      clear q0_10 q1_10 z10
      clear hb
      go_wp2_with fail
      go_ret
      exact ⟨rfl, B11.out⟩
  · rw [hbl] at HLg
    clear hf hbl
    unfold Gv.v at HLg ⊢
    obtain ⟨A0, c0, own, A1, c1, rs⟩ := g
    simp only at hW p0 p1 HLg ⊢
    go_enter Try.func4, Try.ntmps4
    go_wp2_with fail
    refine (HLg.out).mono ?_
    rintro e w1 ⟨rfl, hb⟩
    have B1 := Lib.hid (B0.out.trans (hb.mono B0.out.size))
    clear hb
    go_wp2_with fail
    refine (known_ok w1).mono ?_
    rintro e w2 ⟨rfl, hb⟩
    have B2 := Lib.hid (B1.out.trans (hb.mono B1.out.size))
    clear hb
    go_wp2_with fail
    go_ret
    exact ⟨rfl, B2.out⟩
end Go.Proofs.Ytibcjkpfpiamkaa

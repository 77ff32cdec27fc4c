/-
  The walks of the laws LureKeeps: they return true. Conditions: the game and the lists can be read.
-/
import Derived.Test.YtibcjkpfpiamkaaLwAgain
namespace Go.Proofs.Ytibcjkpfpiamkaa
open Go.RowKit
set_option linter.unusedVariables false

theorem kep_le (G : Gm) (L : List Int) : (kepL G L).length ≤ 16 := by
  unfold kepL
  split
  · exact lst_le _
  · simp
theorem kep_twice {G : Gm} {L : List Int} (h : askE G L = 0) : kepL G (kepL G L) = kepL G L ∧ askE G (kepL G L) = 0 := by
  obtain ⟨hG, hs⟩ := askE_zero h
  have h16 := (gE_zero hG).le
  have hg : gatN L < 2 ^ G.own.length := gat_lt hs (by omega)
  have hk := kp_lt (G := G) hg
  have e1 : kepL G L = lst (kpN G (gatN L)) := by unfold kepL; rw [if_pos h]
  have hset : setL G.own.length (lst (kpN G (gatN L))) = true := by
    unfold lst
    rw [listK_high (fun j hj => high_bits hk hj) h16]
    exact setL_listK _ _
  have h2 : askE G (kepL G L) = 0 := by
    rw [e1]
    unfold askE
    rw [if_pos hG, if_pos hset]
  refine ⟨?_, h2⟩
  have e2 : kepL G (kepL G L) = lst (kpN G (gatN (kepL G L))) := by
    show (if askE G (kepL G L) = 0 then _ else _) = _
    rw [if_pos h2]
  rw [e2, e1, gat_lst hk h16, kp_again hg]
set_option maxRecDepth 4000 in
set_option maxHeartbeats 3200000 in
theorem LureKeeps_walk (g : Gv) (A : Option Addr) (c : Nat) (L : List Int) (w : World) (hr : RdG w w.heap.size g) (hf : Gfit g) (hqL : Rd w w.heap.size A (ints L)) (hlL : L.length ≤ c) (hcL : c ≤ maxLen) :
    Calls Try.prog 13 #[g.v, .slice A L.length c] w fun e w' => e = .returned (.bool true) ∧ Below w.heap.size w w' := by
  obtain ⟨W, hW, p0, p1, hz, hb, hr1⟩ := box_game w g 25 hr
  have B0 := Lib.hid hb
  have RG0 := Lib.hid hr1
  have HLg := Lib.hid (Large_any g W hr1 hf)
  have L_0 := Lib.hid (hqL.up hb)
  have hmL : L.length ≤ 9223372036854775807 := by unfold maxLen at hcL; omega
  clear hr hb hr1 hqL hlL hcL
  cases hbl : largeB g
  · obtain ⟨n100, r100, rr100⟩ := large_fit hbl
    rw [hbl] at HLg
    by_cases hlongL : 100 < L.length
    · have eL : decide ((100 : Int) < (L.length : Int)) = true := by rw [decide_eq_true_eq]; omega
      clear hlongL n100 r100 rr100
      clear hf hbl
      unfold Gv.v at HLg ⊢
      obtain ⟨A0, c0, own, A1, c1, rs⟩ := g
      simp only at hW p0 p1 HLg ⊢
      go_enter Try.func13, Try.ntmps13
      go_wp2_with fail
      refine (HLg.out).mono ?_
      rintro e w1 ⟨rfl, hb⟩
      have B1 := Lib.hid (B0.out.trans (hb.mono B0.out.size))
      clear hb
      go_wp2_with fail
      refine (known_ok w1).mono ?_
      rintro e w2 ⟨rfl, hb⟩
      have B2 := Lib.hid (B1.out.trans (hb.mono B1.out.size))
      clear hb
      go_wp2_with fail
      go_ret
      exact ⟨rfl, B2.out⟩
    · have eL : decide ((100 : Int) < (L.length : Int)) = false := by rw [decide_eq_false_iff_not]; omega
      have h100L : L.length ≤ 100 := by omega
      clear hlongL
      have hx := kep_le g.G L
      have C1 := Lib.hid (fun w h q => Keeps_any g A c L w h hf q hmL)
      have C2 := Lib.hid (fun w h q => rKeeps_any g A c L w h hf q hmL)
      have C3 := Lib.hid (fun A2 c2 w h q => Keeps_any g A2 c2 (kepL g.G L) w h hf q (by omega))
      by_cases hV : askE g.G L = 0
      · rw [(kep_twice hV).1, (kep_twice hV).2] at C3
        rw [hV] at C1 C2
        clear hf hbl n100 r100 rr100 hV
        generalize kepL g.G L = X at *
        unfold Gv.v at HLg C1 C2 C3 ⊢
        obtain ⟨A0, c0, own, A1, c1, rs⟩ := g
        simp only at hW p0 p1 HLg C1 C2 C3 ⊢
        go_enter Try.func13, Try.ntmps13
        go_wp2_with fail
        refine (HLg.out).mono ?_
        rintro e w1 ⟨rfl, hb⟩
        have B1 := Lib.hid (B0.out.trans (hb.mono B0.out.size))
        have RG1 := Lib.hid (RG0.out.up hb)
        have L_1 := Lib.hid (L_0.out.up hb)
        have q0_1 := cell_keep p0 hb hz
        have q1_1 := cell_keep p1 hb hz
        have z1 : w.heap.size < w1.heap.size := Nat.lt_of_lt_of_le hz hb.size
        clear p0 p1 hz hW
        clear hb
        go_wp2_with fail
        refine (C1.out w1 RG1.out L_1.out).mono ?_
        rintro e w2 ⟨A3, c3, rfl, hc3, hfA3, hrA3, hb⟩
        have B2 := Lib.hid (B1.out.trans (hb.mono B1.out.size))
        have RG2 := Lib.hid (RG1.out.up hb)
        have L_2 := Lib.hid (L_1.out.up hb)
        have q0_2 := cell_keep q0_1 hb z1
        have q1_2 := cell_keep q1_1 hb z1
        have z2 : w.heap.size < w2.heap.size := Nat.lt_of_lt_of_le z1 hb.size
        clear q0_1 q1_1 z1
        clear hb
        have X_2 := Lib.hid hrA3
        clear hfA3 hrA3
        go_wp2_with fail
        refine (C2.out w2 RG2.out L_2.out).mono ?_
        rintro e w3 ⟨A4, c4, rfl, hc4, hfA4, hrA4, hb⟩
        have B3 := Lib.hid (B2.out.trans (hb.mono B2.out.size))
        have RG3 := Lib.hid (RG2.out.up hb)
        have L_3 := Lib.hid (L_2.out.up hb)
        have X_3 := Lib.hid (X_2.out.up hb)
        have q0_3 := cell_keep q0_2 hb z2
        have q1_3 := cell_keep q1_2 hb z2
        have z3 : w.heap.size < w3.heap.size := Nat.lt_of_lt_of_le z2 hb.size
        clear q0_2 q1_2 z2
        clear hb
        have Y_3 := Lib.hid hrA4
        clear hfA4 hrA4
        go_wp2_with fail
        refine (Same_b A3 A4 c3 c4 X _ _ w3 rfl rfl X_3.out Y_3.out (by omega)).mono ?_
        rintro e w4 ⟨rfl, hb⟩
        have B4 := Lib.hid (B3.out.trans (hb.mono B3.out.size))
        have RG4 := Lib.hid (RG3.out.up hb)
        have L_4 := Lib.hid (L_3.out.up hb)
        have X_4 := Lib.hid (X_3.out.up hb)
        have Y_4 := Lib.hid (Y_3.out.up hb)
        have q0_4 := cell_keep q0_3 hb z3
        have q1_4 := cell_keep q1_3 hb z3
        have z4 : w.heap.size < w4.heap.size := Nat.lt_of_lt_of_le z3 hb.size
        clear q0_3 q1_3 z3
        clear hb
        go_wp2_with fail
        refine (C3.out A3 c3 w4 RG4.out X_4.out).mono ?_
        rintro e w5 ⟨A5, c5, rfl, hc5, hfA5, hrA5, hb⟩
        have B5 := Lib.hid (B4.out.trans (hb.mono B4.out.size))
        have RG5 := Lib.hid (RG4.out.up hb)
        have L_5 := Lib.hid (L_4.out.up hb)
        have X_5 := Lib.hid (X_4.out.up hb)
        have Y_5 := Lib.hid (Y_4.out.up hb)
        have q0_5 := cell_keep q0_4 hb z4
        have q1_5 := cell_keep q1_4 hb z4
        have z5 : w.heap.size < w5.heap.size := Nat.lt_of_lt_of_le z4 hb.size
        clear q0_4 q1_4 z4
        clear hb
        have Z_5 := Lib.hid hrA5
        clear hfA5 hrA5
        go_wp2_with fail
        refine (Same_b A5 A3 c5 c3 X _ _ w5 rfl rfl Z_5.out X_5.out (by omega)).mono ?_
        rintro e w6 ⟨rfl, hb⟩
        have B6 := Lib.hid (B5.out.trans (hb.mono B5.out.size))
        have RG6 := Lib.hid (RG5.out.up hb)
        have L_6 := Lib.hid (L_5.out.up hb)
        have X_6 := Lib.hid (X_5.out.up hb)
        have Y_6 := Lib.hid (Y_5.out.up hb)
        have Z_6 := Lib.hid (Z_5.out.up hb)
        have q0_6 := cell_keep q0_5 hb z5
        have q1_6 := cell_keep q1_5 hb z5
        have z6 : w.heap.size < w6.heap.size := Nat.lt_of_lt_of_le z5 hb.size
        clear q0_5 q1_5 z5
        clear hb
        go_wp2_with fail
        refine (known_ok w6).mono ?_
        rintro e w7 ⟨rfl, hb⟩
        have B7 := Lib.hid (B6.out.trans (hb.mono B6.out.size))
        have RG7 := Lib.hid (RG6.out.up hb)
        have L_7 := Lib.hid (L_6.out.up hb)
        have X_7 := Lib.hid (X_6.out.up hb)
        have Y_7 := Lib.hid (Y_6.out.up hb)
        have Z_7 := Lib.hid (Z_6.out.up hb)
        have q0_7 := cell_keep q0_6 hb z6
        have q1_7 := cell_keep q1_6 hb z6
        have z7 : w.heap.size < w7.heap.size := Nat.lt_of_lt_of_le z6 hb.size
        clear q0_6 q1_6 z6
        clear hb
        go_wp2_with fail
        go_ret
        exact ⟨rfl, B7.out⟩
      · obtain ⟨V, hVe⟩ : ∃ V, askE g.G L = V := ⟨_, rfl⟩
        rw [hVe] at hV C1 C2
        have hb1 : (V == 0) = false := by simpa using hV
        have hb2 : (V != 0) = true := by simpa using hV
        have hb3 : (V != V) = false := by simp
        clear hf hbl n100 r100 rr100 hV hVe
        generalize askE g.G (kepL g.G L) = V2 at *
        generalize kepL g.G (kepL g.G L) = Z at *
        generalize kepL g.G L = X at *
        unfold Gv.v at HLg C1 C2 C3 ⊢
        obtain ⟨A0, c0, own, A1, c1, rs⟩ := g
        simp only at hW p0 p1 HLg C1 C2 C3 ⊢
        go_enter Try.func13, Try.ntmps13
        go_wp2_with fail
        refine (HLg.out).mono ?_
        rintro e w1 ⟨rfl, hb⟩
        have B1 := Lib.hid (B0.out.trans (hb.mono B0.out.size))
        have RG1 := Lib.hid (RG0.out.up hb)
        have L_1 := Lib.hid (L_0.out.up hb)
        have q0_1 := cell_keep p0 hb hz
        have q1_1 := cell_keep p1 hb hz
        have z1 : w.heap.size < w1.heap.size := Nat.lt_of_lt_of_le hz hb.size
        clear p0 p1 hz hW
        clear hb
        go_wp2_with fail
        refine (C1.out w1 RG1.out L_1.out).mono ?_
        rintro e w2 ⟨A3, c3, rfl, hc3, hfA3, hrA3, hb⟩
        have B2 := Lib.hid (B1.out.trans (hb.mono B1.out.size))
        have RG2 := Lib.hid (RG1.out.up hb)
        have L_2 := Lib.hid (L_1.out.up hb)
        have q0_2 := cell_keep q0_1 hb z1
        have q1_2 := cell_keep q1_1 hb z1
        have z2 : w.heap.size < w2.heap.size := Nat.lt_of_lt_of_le z1 hb.size
        clear q0_1 q1_1 z1
        clear hb
        have X_2 := Lib.hid hrA3
        clear hfA3 hrA3
        go_wp2_with fail
        refine (C2.out w2 RG2.out L_2.out).mono ?_
        rintro e w3 ⟨A4, c4, rfl, hc4, hfA4, hrA4, hb⟩
        have B3 := Lib.hid (B2.out.trans (hb.mono B2.out.size))
        have RG3 := Lib.hid (RG2.out.up hb)
        have L_3 := Lib.hid (L_2.out.up hb)
        have X_3 := Lib.hid (X_2.out.up hb)
        have q0_3 := cell_keep q0_2 hb z2
        have q1_3 := cell_keep q1_2 hb z2
        have z3 : w.heap.size < w3.heap.size := Nat.lt_of_lt_of_le z2 hb.size
        clear q0_2 q1_2 z2
        clear hb
        have Y_3 := Lib.hid hrA4
        clear hfA4 hrA4
        go_wp2_with fail
        refine (Same_b A3 A4 c3 c4 X _ _ w3 rfl rfl X_3.out Y_3.out (by omega)).mono ?_
        rintro e w4 ⟨rfl, hb⟩
        have B4 := Lib.hid (B3.out.trans (hb.mono B3.out.size))
        have RG4 := Lib.hid (RG3.out.up hb)
        have L_4 := Lib.hid (L_3.out.up hb)
        have X_4 := Lib.hid (X_3.out.up hb)
        have Y_4 := Lib.hid (Y_3.out.up hb)
        have q0_4 := cell_keep q0_3 hb z3
        have q1_4 := cell_keep q1_3 hb z3
        have z4 : w.heap.size < w4.heap.size := Nat.lt_of_lt_of_le z3 hb.size
        clear q0_3 q1_3 z3
        clear hb
        go_wp2_with fail
        refine (C3.out A3 c3 w4 RG4.out X_4.out).mono ?_
        rintro e w5 ⟨A5, c5, rfl, hc5, hfA5, hrA5, hb⟩
        have B5 := Lib.hid (B4.out.trans (hb.mono B4.out.size))
        have RG5 := Lib.hid (RG4.out.up hb)
        have L_5 := Lib.hid (L_4.out.up hb)
        have X_5 := Lib.hid (X_4.out.up hb)
        have Y_5 := Lib.hid (Y_4.out.up hb)
        have q0_5 := cell_keep q0_4 hb z4
        have q1_5 := cell_keep q1_4 hb z4
        have z5 : w.heap.size < w5.heap.size := Nat.lt_of_lt_of_le z4 hb.size
        clear q0_4 q1_4 z4
        clear hb
        have Z_5 := Lib.hid hrA5
        clear hfA5 hrA5
        go_wp2_with fail
        refine (known_ok w5).mono ?_
        rintro e w6 ⟨rfl, hb⟩
        have B6 := Lib.hid (B5.out.trans (hb.mono B5.out.size))
        have RG6 := Lib.hid (RG5.out.up hb)
        have L_6 := Lib.hid (L_5.out.up hb)
        have X_6 := Lib.hid (X_5.out.up hb)
        have Y_6 := Lib.hid (Y_5.out.up hb)
        have Z_6 := Lib.hid (Z_5.out.up hb)
        have q0_6 := cell_keep q0_5 hb z5
        have q1_6 := cell_keep q1_5 hb z5
        have z6 : w.heap.size < w6.heap.size := Nat.lt_of_lt_of_le z5 hb.size
        clear q0_5 q1_5 z5
        clear hb
        go_wp2_with fail
        go_ret
        exact ⟨rfl, B6.out⟩
  · rw [hbl] at HLg
    clear hf hbl
    unfold Gv.v at HLg ⊢
    obtain ⟨A0, c0, own, A1, c1, rs⟩ := g
    simp only at hW p0 p1 HLg ⊢
    go_enter Try.func13, Try.ntmps13
    go_wp2_with fail
    refine (HLg.out).mono ?_
    rintro e w1 ⟨rfl, hb⟩
    have B1 := Lib.hid (B0.out.trans (hb.mono B0.out.size))
    clear hb
    go_wp2_with fail
    refine (known_ok w1).mono ?_
    rintro e w2 ⟨rfl, hb⟩
    have B2 := Lib.hid (B1.out.trans (hb.mono B1.out.size))
    clear hb
    go_wp2_with fail
    go_ret
    exact ⟨rfl, B2.out⟩
end Go.Proofs.Ytibcjkpfpiamkaa

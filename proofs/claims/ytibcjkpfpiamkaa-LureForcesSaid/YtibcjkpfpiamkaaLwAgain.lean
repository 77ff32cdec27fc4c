/-
  The walks of the laws LureAgain: they return true. Conditions: the game and the lists can be read.
-/
import Derived.Test.YtibcjkpfpiamkaaLwCertifies
import Derived.Test.YtibcjkpfpiamkaaLu22
namespace Go.Proofs.Ytibcjkpfpiamkaa
open Go.RowKit
set_option linter.unusedVariables false

theorem aga_le (G : Gm) (L : List Int) : (agaL G L).length ≤ 16 := by
  unfold agaL
  split
  · exact lst_le _
  · simp
theorem lst_in {x y : Nat} (h : sub x y) {k : Nat} {d : Int} (hd : (lst x)[k]? = some d) : decide (d ∈ lst y) = true := by
  rw [decide_eq_true_eq]
  obtain ⟨n, hn, h16, hb⟩ := listK_mem (List.mem_of_getElem? hd)
  exact List.mem_map.2 ⟨n, by rw [List.mem_filter]; exact ⟨List.mem_range.2 h16, h n hb⟩, hn.symm⟩
theorem aga_win {G : Gm} {L : List Int} {k : Nat} {d : Int} (hd : (agaL G L)[k]? = some d) : decide (d ∈ winL G L) = true := by
  unfold agaL at hd
  unfold winL
  by_cases h : askE G L = 0
  · rw [if_pos h] at hd ⊢
    obtain ⟨hG, hs⟩ := askE_zero h
    exact lst_in (ag_won (gat_lt hs (by have := (gE_zero hG).le; omega))) hd
  · rw [if_neg h] at hd; simp at hd
set_option maxRecDepth 4000 in
set_option maxHeartbeats 3200000 in
theorem LureAgain_walk (g : Gv) (A : Option Addr) (c : Nat) (L : List Int) (w : World) (hr : RdG w w.heap.size g) (hf : Gfit g) (hqL : Rd w w.heap.size A (ints L)) (hlL : L.length ≤ c) (hcL : c ≤ maxLen) :
    Calls Try.prog 12 #[g.v, .slice A L.length c] w fun e w' => e = .returned (.bool true) ∧ Below w.heap.size w w' := by
  obtain ⟨W, hW, p0, p1, hz, hb, hr1⟩ := box_game w g 25 hr
  have B0 := Lib.hid hb
  have RG0 := Lib.hid hr1
  have HLg := Lib.hid (Large_any g W hr1 hf)
  have L_0 := Lib.hid (hqL.up hb)
  have hmL : L.length ≤ 9223372036854775807 := by unfold maxLen at hcL; omega
  clear hr hb hr1 hqL hlL hcL
  cases hbl : largeB g
  · obtain ⟨n100, r100, rr100⟩ := large_fit hbl
    rw [hbl] at HLg
    by_cases hlongL : 100 < L.length
    · have eL : decide ((100 : Int) < (L.length : Int)) = true := by rw [decide_eq_true_eq]; omega
      clear hlongL n100 r100 rr100
      clear hf hbl
      unfold Gv.v at HLg ⊢
      obtain ⟨A0, c0, own, A1, c1, rs⟩ := g
      simp only at hW p0 p1 HLg ⊢
      go_enter Try.func12, Try.ntmps12
      go_wp2_with fail
      refine (HLg.out).mono ?_
      rintro e w1 ⟨rfl, hb⟩
      have B1 := Lib.hid (B0.out.trans (hb.mono B0.out.size))
      clear hb
      go_wp2_with fail
      refine (known_ok w1).mono ?_
      rintro e w2 ⟨rfl, hb⟩
      have B2 := Lib.hid (B1.out.trans (hb.mono B1.out.size))
      clear hb
      go_wp2_with fail
      go_ret
      exact ⟨rfl, B2.out⟩
    · have eL : decide ((100 : Int) < (L.length : Int)) = false := by rw [decide_eq_false_iff_not]; omega
      have h100L : L.length ≤ 100 := by omega
      clear hlongL
      have C1 := Lib.hid (fun w h q => Again_any g A c L w h hf q hmL)
      have C2 := Lib.hid (fun w h q => rAgain_any g A c L w h hf q hmL)
      have C3 := Lib.hid (fun w h q => Wins_any g A c L w h hf q hmL)
      have HX := Lib.hid (fun k d h => aga_win (G := g.G) (L := L) (k := k) (d := d) h)
      have hx := aga_le g.G L
      have hy := win_le g.G L
      clear hf hbl n100 r100 rr100
      generalize agaL g.G L = X at *
      generalize winL g.G L = Z at *
      generalize askE g.G L = V at *
      unfold Gv.v at HLg C1 C2 C3 ⊢
      obtain ⟨A0, c0, own, A1, c1, rs⟩ := g
      simp only at hW p0 p1 HLg C1 C2 C3 ⊢
      go_enter Try.func12, Try.ntmps12
      go_wp2_with fail
      refine (HLg.out).mono ?_
      rintro e w1 ⟨rfl, hb⟩
      have B1 := Lib.hid (B0.out.trans (hb.mono B0.out.size))
      have RG1 := Lib.hid (RG0.out.up hb)
      have L_1 := Lib.hid (L_0.out.up hb)
      have q0_1 := cell_keep p0 hb hz
      have q1_1 := cell_keep p1 hb hz
      have z1 : w.heap.size < w1.heap.size := Nat.lt_of_lt_of_le hz hb.size
      clear p0 p1 hz hW
      clear hb
      have hb3 : (V != V) = false := by simp
      go_wp2_with fail
      refine (C1.out w1 RG1.out L_1.out).mono ?_
      rintro e w2 ⟨A3, c3, rfl, hc3, hfA3, hrA3, hb⟩
      have B2 := Lib.hid (B1.out.trans (hb.mono B1.out.size))
      have RG2 := Lib.hid (RG1.out.up hb)
      have L_2 := Lib.hid (L_1.out.up hb)
      have q0_2 := cell_keep q0_1 hb z1
      have q1_2 := cell_keep q1_1 hb z1
      have z2 : w.heap.size < w2.heap.size := Nat.lt_of_lt_of_le z1 hb.size
      clear q0_1 q1_1 z1
      clear hb
      have X_2 := Lib.hid hrA3
      clear hfA3 hrA3
      go_wp2_with fail
      refine (C2.out w2 RG2.out L_2.out).mono ?_
      rintro e w3 ⟨A4, c4, rfl, hc4, hfA4, hrA4, hb⟩
      have B3 := Lib.hid (B2.out.trans (hb.mono B2.out.size))
      have RG3 := Lib.hid (RG2.out.up hb)
      have L_3 := Lib.hid (L_2.out.up hb)
      have X_3 := Lib.hid (X_2.out.up hb)
      have q0_3 := cell_keep q0_2 hb z2
      have q1_3 := cell_keep q1_2 hb z2
      have z3 : w.heap.size < w3.heap.size := Nat.lt_of_lt_of_le z2 hb.size
      clear q0_2 q1_2 z2
      clear hb
      have Y_3 := Lib.hid hrA4
      clear hfA4 hrA4
      go_wp2_with fail
      refine (Same_b A3 A4 c3 c4 X _ _ w3 rfl rfl X_3.out Y_3.out (by omega)).mono ?_
      rintro e w4 ⟨rfl, hb⟩
      have B4 := Lib.hid (B3.out.trans (hb.mono B3.out.size))
      have RG4 := Lib.hid (RG3.out.up hb)
      have L_4 := Lib.hid (L_3.out.up hb)
      have X_4 := Lib.hid (X_3.out.up hb)
      have Y_4 := Lib.hid (Y_3.out.up hb)
      have q0_4 := cell_keep q0_3 hb z3
      have q1_4 := cell_keep q1_3 hb z3
      have z4 : w.heap.size < w4.heap.size := Nat.lt_of_lt_of_le z3 hb.size
      clear q0_3 q1_3 z3
      clear hb
      go_wp2_with fail
      refine (C3.out w4 RG4.out L_4.out).mono ?_
      rintro e w5 ⟨A5, c5, rfl, hc5, hfA5, hrA5, hb⟩
      have B5 := Lib.hid (B4.out.trans (hb.mono B4.out.size))
      have RG5 := Lib.hid (RG4.out.up hb)
      have L_5 := Lib.hid (L_4.out.up hb)
      have X_5 := Lib.hid (X_4.out.up hb)
      have Y_5 := Lib.hid (Y_4.out.up hb)
      have q0_5 := cell_keep q0_4 hb z4
      have q1_5 := cell_keep q1_4 hb z4
      have z5 : w.heap.size < w5.heap.size := Nat.lt_of_lt_of_le z4 hb.size
      clear q0_4 q1_4 z4
      clear hb
      have Z_5 := Lib.hid hrA5
      clear hfA5 hrA5
      go_wp2_with fail
      go_loopw [11] (fun i wr => ∃ k : Nat, k ≤ X.length ∧ i = .int .i64 k ∧ wr = w5) (fun i _ => X.length - (intOf i).toNat)
      case atStart => exact ⟨0, by omega, rfl, rfl⟩
      case round =>
        obtain ⟨k, hk, rfl, rfl⟩ := hrel
        by_cases hlt : k < X.length
        · obtain ⟨b, o, d, rfl, hd, hc⟩ := X_5.out.int k hlt
          have HQ := Lib.hid (Has_any A5 c5 Z d _ Z_5.out (by omega))
          rw [HX.out k d hd.out] at HQ
          go_wp2_with fail
          refine (HQ.out).mono ?_
          rintro e w' ⟨rfl, rfl⟩
          go_wp2_with fail
          go_roundw
          case rel => exact ⟨k + 1, by omega, by go_num, by first | rfl | trivial⟩
          case measure => simp [intOf]; omega
        · have hks : k = X.length := by omega
          have b3 : decide ((k : Int) < (X.length : Int)) = false := by rw [decide_eq_false_iff_not]; omega
          have b4 : decide (k < X.length) = false := by rw [decide_eq_false_iff_not]; exact hlt
          clear hlt hks
          go_wp2_with fail
          refine (known_ok wr).mono ?_
          rintro e w6 ⟨rfl, hb⟩
          have B6 := Lib.hid (B5.out.trans (hb.mono B5.out.size))
          have RG6 := Lib.hid (RG5.out.up hb)
          have L_6 := Lib.hid (L_5.out.up hb)
          have X_6 := Lib.hid (X_5.out.up hb)
          have Y_6 := Lib.hid (Y_5.out.up hb)
          have Z_6 := Lib.hid (Z_5.out.up hb)
          have q0_6 := cell_keep q0_5 hb z5
          have q1_6 := cell_keep q1_5 hb z5
          have z6 : w.heap.size < w6.heap.size := Nat.lt_of_lt_of_le z5 hb.size
          clear q0_5 q1_5 z5
          clear hb
          go_wp2_with fail
          go_ret
          exact ⟨rfl, B6.out⟩
  · rw [hbl] at HLg
    clear hf hbl
    unfold Gv.v at HLg ⊢
    obtain ⟨A0, c0, own, A1, c1, rs⟩ := g
    simp only at hW p0 p1 HLg ⊢
    go_enter Try.func12, Try.ntmps12
    go_wp2_with fail
    refine (HLg.out).mono ?_
    rintro e w1 ⟨rfl, hb⟩
    have B1 := Lib.hid (B0.out.trans (hb.mono B0.out.size))
    clear hb
    go_wp2_with fail
    refine (known_ok w1).mono ?_
    rintro e w2 ⟨rfl, hb⟩
    have B2 := Lib.hid (B1.out.trans (hb.mono B1.out.size))
    clear hb
    go_wp2_with fail
    go_ret
    exact ⟨rfl, B2.out⟩
end Go.Proofs.Ytibcjkpfpiamkaa

/-
  The walks of the laws LureTraps: they return true. Conditions: the game and the lists can be read.
-/
import Derived.Test.YtibcjkpfpiamkaaLwProofs
import Derived.Test.YtibcjkpfpiamkaaLu19
namespace Go.Proofs.Ytibcjkpfpiamkaa
open Go.RowKit
set_option linter.unusedVariables false

theorem trap_free {G : Gm} {L T : List Int} (h : ctE G L T = 0) {k : Nat} {d : Int} (hd : T[k]? = some d) : decide (d ∈ freL G L) = true := by
  obtain ⟨h1, h2, h3⟩ := ctE_zero h
  obtain ⟨hG, hs⟩ := askE_zero h1
  have H := gE_zero hG
  have h16 := H.le
  rw [decide_eq_true_eq]
  unfold freL
  rw [if_pos h1]
  have hm := List.mem_of_getElem? hd
  have hr := set_mem h2 hm
  have hT := tr_mem h2 (by omega) hm
  have hl := trap_lv H (gat_lt h2 (by omega)) h3 G.own.length d.toNat hT
  refine List.mem_map.2 ⟨d.toNat, ?_, by omega⟩
  rw [List.mem_filter]
  refine ⟨List.mem_range.2 (by omega), ?_⟩
  rw [free_at (by omega), Bool.not_eq_true']
  exact hl
set_option maxRecDepth 4000 in
set_option maxHeartbeats 3200000 in
theorem LureTraps_walk (g : Gv) (A : Option Addr) (c : Nat) (L : List Int) (A2 : Option Addr) (c2 : Nat) (R : List Int) (w : World) (hr : RdG w w.heap.size g) (hf : Gfit g) (hqL : Rd w w.heap.size A (ints L)) (hlL : L.length ≤ c) (hcL : c ≤ maxLen) (hqR : Rd w w.heap.size A2 (ints R)) (hlR : R.length ≤ c2) (hcR : c2 ≤ maxLen) :
    Calls Try.prog 7 #[g.v, .slice A L.length c, .slice A2 R.length c2] w fun e w' => e = .returned (.bool true) ∧ Below w.heap.size w w' := by
  obtain ⟨W, hW, p0, p1, hz, hb, hr1⟩ := box_game w g 25 hr
  have B0 := Lib.hid hb
  have RG0 := Lib.hid hr1
  have HLg := Lib.hid (Large_any g W hr1 hf)
  have L_0 := Lib.hid (hqL.up hb)
  have hmL : L.length ≤ 9223372036854775807 := by unfold maxLen at hcL; omega
  have R_0 := Lib.hid (hqR.up hb)
  have hmR : R.length ≤ 9223372036854775807 := by unfold maxLen at hcR; omega
  clear hr hb hr1 hqL hlL hcL hqR hlR hcR
  cases hbl : largeB g
  · obtain ⟨n100, r100, rr100⟩ := large_fit hbl
    rw [hbl] at HLg
    by_cases hlongL : 100 < L.length
    · have eL : decide ((100 : Int) < (L.length : Int)) = true := by rw [decide_eq_true_eq]; omega
      clear hlongL n100 r100 rr100
      clear hf hbl
      unfold Gv.v at HLg ⊢
      obtain ⟨A0, c0, own, A1, c1, rs⟩ := g
      simp only at hW p0 p1 HLg ⊢
      go_enter Try.func7, Try.ntmps7
      go_wp2_with fail
      refine (HLg.out).mono ?_
      rintro e w1 ⟨rfl, hb⟩
      have B1 := Lib.hid (B0.out.trans (hb.mono B0.out.size))
      clear hb
      go_wp2_with fail
      refine (known_ok w1).mono ?_
      rintro e w2 ⟨rfl, hb⟩
      have B2 := Lib.hid (B1.out.trans (hb.mono B1.out.size))
      clear hb
      go_wp2_with fail
      go_ret
      exact ⟨rfl, B2.out⟩
    · have eL : decide ((100 : Int) < (L.length : Int)) = false := by rw [decide_eq_false_iff_not]; omega
      have h100L : L.length ≤ 100 := by omega
      clear hlongL
      by_cases hlongR : 100 < R.length
      · have eR : decide ((100 : Int) < (R.length : Int)) = true := by rw [decide_eq_true_eq]; omega
        clear hlongR n100 r100 rr100
        clear hf hbl
        unfold Gv.v at HLg ⊢
        obtain ⟨A0, c0, own, A1, c1, rs⟩ := g
        simp only at hW p0 p1 HLg ⊢
        go_enter Try.func7, Try.ntmps7
        go_wp2_with fail
        refine (HLg.out).mono ?_
        rintro e w1 ⟨rfl, hb⟩
        have B1 := Lib.hid (B0.out.trans (hb.mono B0.out.size))
        clear hb
        go_wp2_with fail
        refine (known_ok w1).mono ?_
        rintro e w2 ⟨rfl, hb⟩
        have B2 := Lib.hid (B1.out.trans (hb.mono B1.out.size))
        clear hb
        go_wp2_with fail
        go_ret
        exact ⟨rfl, B2.out⟩
      · have eR : decide ((100 : Int) < (R.length : Int)) = false := by rw [decide_eq_false_iff_not]; omega
        have h100R : R.length ≤ 100 := by omega
        clear hlongR
        have K1 := Lib.hid (fun w h q r => CheckTrap_any g A c L A2 c2 R w h hf q hmL r hmR)
        have K2 := Lib.hid (fun w h q r => rCheckTrap_any g A c L A2 c2 R w h hf q hmL r hmR)
        by_cases hV : ctE g.G L R = 0
        · rw [hV] at K1 K2
          have C1 := Lib.hid (fun w h q => Free_any g A c L w h hf q hmL)
          have HX := Lib.hid (fun k d h => trap_free hV (k := k) (d := d) h)
          rw [(ctE_zero hV).1] at C1
          have hx := fre_le g.G L
          clear hf hbl n100 r100 rr100 hV
          generalize freL g.G L = X at *
          unfold Gv.v at HLg K1 K2 C1 ⊢
          obtain ⟨A0, c0, own, A1, c1, rs⟩ := g
          simp only at hW p0 p1 HLg K1 K2 C1 ⊢
          go_enter Try.func7, Try.ntmps7
          go_wp2_with fail
          refine (HLg.out).mono ?_
          rintro e w1 ⟨rfl, hb⟩
          have B1 := Lib.hid (B0.out.trans (hb.mono B0.out.size))
          have RG1 := Lib.hid (RG0.out.up hb)
          have L_1 := Lib.hid (L_0.out.up hb)
          have R_1 := Lib.hid (R_0.out.up hb)
          have q0_1 := cell_keep p0 hb hz
          have q1_1 := cell_keep p1 hb hz
          have z1 : w.heap.size < w1.heap.size := Nat.lt_of_lt_of_le hz hb.size
          clear p0 p1 hz hW
          clear hb
          go_wp2_with fail
          refine (K1.out w1 RG1.out L_1.out R_1.out).mono ?_
          rintro e w2 ⟨rfl, hb⟩
          have B2 := Lib.hid (B1.out.trans (hb.mono B1.out.size))
          have RG2 := Lib.hid (RG1.out.up hb)
          have L_2 := Lib.hid (L_1.out.up hb)
          have R_2 := Lib.hid (R_1.out.up hb)
          have q0_2 := cell_keep q0_1 hb z1
          have q1_2 := cell_keep q1_1 hb z1
          have z2 : w.heap.size < w2.heap.size := Nat.lt_of_lt_of_le z1 hb.size
          clear q0_1 q1_1 z1
          clear hb
          go_wp2_with fail
          refine (K2.out w2 RG2.out L_2.out R_2.out).mono ?_
          rintro e w3 ⟨rfl, hb⟩
          have B3 := Lib.hid (B2.out.trans (hb.mono B2.out.size))
          have RG3 := Lib.hid (RG2.out.up hb)
          have L_3 := Lib.hid (L_2.out.up hb)
          have R_3 := Lib.hid (R_2.out.up hb)
          have q0_3 := cell_keep q0_2 hb z2
          have q1_3 := cell_keep q1_2 hb z2
          have z3 : w.heap.size < w3.heap.size := Nat.lt_of_lt_of_le z2 hb.size
          clear q0_2 q1_2 z2
          clear hb
          go_wp2_with fail
          refine (C1.out w3 RG3.out L_3.out).mono ?_
          rintro e w4 ⟨A3, c3, rfl, hc3, hfA3, hrA3, hb⟩
          have B4 := Lib.hid (B3.out.trans (hb.mono B3.out.size))
          have RG4 := Lib.hid (RG3.out.up hb)
          have L_4 := Lib.hid (L_3.out.up hb)
          have R_4 := Lib.hid (R_3.out.up hb)
          have q0_4 := cell_keep q0_3 hb z3
          have q1_4 := cell_keep q1_3 hb z3
          have z4 : w.heap.size < w4.heap.size := Nat.lt_of_lt_of_le z3 hb.size
          clear q0_3 q1_3 z3
          clear hb
          have X_4 := Lib.hid hrA3
          clear hfA3 hrA3
          go_wp2_with fail
          go_loopw [10] (fun i wr => ∃ k : Nat, k ≤ R.length ∧ i = .int .i64 k ∧ wr = w4) (fun i _ => R.length - (intOf i).toNat)
          case atStart => exact ⟨0, by omega, rfl, rfl⟩
          case round =>
            obtain ⟨k, hk, rfl, rfl⟩ := hrel
            by_cases hlt : k < R.length
            · obtain ⟨b, o, d, rfl, hd, hc⟩ := R_4.out.int k hlt
              have HQ := Lib.hid (Has_any A3 c3 X d _ X_4.out (by omega))
              rw [HX.out k d hd.out] at HQ
              go_wp2_with fail
              refine (HQ.out).mono ?_
              rintro e w' ⟨rfl, rfl⟩
              go_wp2_with fail
              go_roundw
              case rel => exact ⟨k + 1, by omega, by go_num, by first | rfl | trivial⟩
              case measure => simp [intOf]; omega
            · have hks : k = R.length := by omega
              have b3 : decide ((k : Int) < (R.length : Int)) = false := by rw [decide_eq_false_iff_not]; omega
              have b4 : decide (k < R.length) = false := by rw [decide_eq_false_iff_not]; exact hlt
              clear hlt hks
              go_wp2_with fail
              refine (known_ok wr).mono ?_
              rintro e w5 ⟨rfl, hb⟩
              have B5 := Lib.hid (B4.out.trans (hb.mono B4.out.size))
              have RG5 := Lib.hid (RG4.out.up hb)
              have L_5 := Lib.hid (L_4.out.up hb)
              have R_5 := Lib.hid (R_4.out.up hb)
              have X_5 := Lib.hid (X_4.out.up hb)
              have q0_5 := cell_keep q0_4 hb z4
              have q1_5 := cell_keep q1_4 hb z4
              have z5 : w.heap.size < w5.heap.size := Nat.lt_of_lt_of_le z4 hb.size
              clear q0_4 q1_4 z4
              clear hb
              go_wp2_with fail
              go_ret
              exact ⟨rfl, B5.out⟩
        · obtain ⟨V, hVe⟩ : ∃ V, ctE g.G L R = V := ⟨_, rfl⟩
          rw [hVe] at hV K1 K2
          have hb1 : (V == 0) = false := by simpa using hV
          have hb2 : (V != 0) = true := by simpa using hV
          have hb3 : (V != V) = false := by simp
          clear hf hbl n100 r100 rr100 hV hVe
          unfold Gv.v at HLg K1 K2 ⊢
          obtain ⟨A0, c0, own, A1, c1, rs⟩ := g
          simp only at hW p0 p1 HLg K1 K2 ⊢
          go_enter Try.func7, Try.ntmps7
          go_wp2_with fail
          refine (HLg.out).mono ?_
          rintro e w1 ⟨rfl, hb⟩
          have B1 := Lib.hid (B0.out.trans (hb.mono B0.out.size))
          have RG1 := Lib.hid (RG0.out.up hb)
          have L_1 := Lib.hid (L_0.out.up hb)
          have R_1 := Lib.hid (R_0.out.up hb)
          have q0_1 := cell_keep p0 hb hz
          have q1_1 := cell_keep p1 hb hz
          have z1 : w.heap.size < w1.heap.size := Nat.lt_of_lt_of_le hz hb.size
          clear p0 p1 hz hW
          clear hb
          go_wp2_with fail
          refine (K1.out w1 RG1.out L_1.out R_1.out).mono ?_
          rintro e w2 ⟨rfl, hb⟩
          have B2 := Lib.hid (B1.out.trans (hb.mono B1.out.size))
          have RG2 := Lib.hid (RG1.out.up hb)
          have L_2 := Lib.hid (L_1.out.up hb)
          have R_2 := Lib.hid (R_1.out.up hb)
          have q0_2 := cell_keep q0_1 hb z1
          have q1_2 := cell_keep q1_1 hb z1
          have z2 : w.heap.size < w2.heap.size := Nat.lt_of_lt_of_le z1 hb.size
          clear q0_1 q1_1 z1
          clear hb
          go_wp2_with fail
          refine (K2.out w2 RG2.out L_2.out R_2.out).mono ?_
          rintro e w3 ⟨rfl, hb⟩
          have B3 := Lib.hid (B2.out.trans (hb.mono B2.out.size))
          have RG3 := Lib.hid (RG2.out.up hb)
          have L_3 := Lib.hid (L_2.out.up hb)
          have R_3 := Lib.hid (R_2.out.up hb)
          have q0_3 := cell_keep q0_2 hb z2
          have q1_3 := cell_keep q1_2 hb z2
          have z3 : w.heap.size < w3.heap.size := Nat.lt_of_lt_of_le z2 hb.size
          clear q0_2 q1_2 z2
          clear hb
          go_wp2_with fail
          refine (known_ok w3).mono ?_
          rintro e w4 ⟨rfl, hb⟩
          have B4 := Lib.hid (B3.out.trans (hb.mono B3.out.size))
          have RG4 := Lib.hid (RG3.out.up hb)
          have L_4 := Lib.hid (L_3.out.up hb)
          have R_4 := Lib.hid (R_3.out.up hb)
          have q0_4 := cell_keep q0_3 hb z3
          have q1_4 := cell_keep q1_3 hb z3
          have z4 : w.heap.size < w4.heap.size := Nat.lt_of_lt_of_le z3 hb.size
          clear q0_3 q1_3 z3
          clear hb
          go_wp2_with fail
          go_ret
          exact ⟨rfl, B4.out⟩
  · rw [hbl] at HLg
    clear hf hbl
    unfold Gv.v at HLg ⊢
    obtain ⟨A0, c0, own, A1, c1, rs⟩ := g
    simp only at hW p0 p1 HLg ⊢
    go_enter Try.func7, Try.ntmps7
    go_wp2_with fail
    refine (HLg.out).mono ?_
    rintro e w1 ⟨rfl, hb⟩
    have B1 := Lib.hid (B0.out.trans (hb.mono B0.out.size))
    clear hb
    go_wp2_with fail
    refine (known_ok w1).mono ?_
    rintro e w2 ⟨rfl, hb⟩
    have B2 := Lib.hid (B1.out.trans (hb.mono B1.out.size))
    clear hb
    go_wp2_with fail
    go_ret
    exact ⟨rfl, B2.out⟩
end Go.Proofs.Ytibcjkpfpiamkaa

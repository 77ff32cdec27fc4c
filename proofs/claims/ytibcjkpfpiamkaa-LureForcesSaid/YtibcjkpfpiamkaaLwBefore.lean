/-
  The walks of the laws LureBefore: they return true. Conditions: the game and the lists can be read.
-/
import Derived.Test.YtibcjkpfpiamkaaLu15
namespace Go.Proofs.Ytibcjkpfpiamkaa
open Go.RowKit
set_option linter.unusedVariables false

theorem Same_b (A1 A2 : Option Addr) (c1 c2 : Nat) (l : List Int) (n1 n2 : Nat) (w : World) (hl1 : l.length = n1) (hl2 : l.length = n2) (hr1 : Rd w w.heap.size A1 (ints l)) (hr2 : Rd w w.heap.size A2 (ints l)) (hn : n1 ≤ 1000) :
    Calls Try.prog 21 #[.slice A1 n1 c1, .slice A2 n2 c2] w fun e w' => e = .returned (.bool true) ∧ Below w.heap.size w w' :=
  (SameInts_same A1 A2 c1 c2 l n1 n2 w hl1 hl2 hr1 hr2 hn).mono fun e w' ⟨he, m, hm⟩ => ⟨he, by rw [hm]; exact bdN (Below.refl _ _) m⟩
theorem bef_le (G : Gm) (L : List Int) : (befL G L).length ≤ 16 := by
  unfold befL
  split
  · exact lst_le _
  · simp
set_option maxRecDepth 4000 in
set_option maxHeartbeats 1600000 in
theorem LureBefore_walk (g : Gv) (A : Option Addr) (c : Nat) (L : List Int) (w : World) (hr : RdG w w.heap.size g) (hf : Gfit g) (hqL : Rd w w.heap.size A (ints L)) (hlL : L.length ≤ c) (hcL : c ≤ maxLen) :
    Calls Try.prog 3 #[g.v, .slice A L.length c] w fun e w' => e = .returned (.bool true) ∧ Below w.heap.size w w' := by
  obtain ⟨W, hW, p0, p1, hz, hb, hr1⟩ := box_game w g 25 hr
  have B0 := Lib.hid hb
  have RG0 := Lib.hid hr1
  have HLg := Lib.hid (Large_any g W hr1 hf)
  have L_0 := Lib.hid (hqL.up hb)
  have hmL : L.length ≤ 9223372036854775807 := by unfold maxLen at hcL; omega
  clear hr hb hr1 hqL hlL hcL
  cases hbl : largeB g
  · obtain ⟨n100, r100, rr100⟩ := large_fit hbl
    rw [hbl] at HLg
    by_cases hlongL : 100 < L.length
    · have eL : decide ((100 : Int) < (L.length : Int)) = true := by rw [decide_eq_true_eq]; omega
      clear hlongL n100 r100 rr100
      clear hf hbl
      unfold Gv.v at HLg ⊢
      obtain ⟨A0, c0, own, A1, c1, rs⟩ := g
      simp only at hW p0 p1 HLg ⊢
      go_enter Try.func3, Try.ntmps3
      go_wp2_with fail
      refine (HLg.out).mono ?_
      rintro e w1 ⟨rfl, hb⟩
      have B1 := Lib.hid (B0.out.trans (hb.mono B0.out.size))
      clear hb
      go_wp2_with fail
      refine (known_ok w1).mono ?_
      rintro e w2 ⟨rfl, hb⟩
      have B2 := Lib.hid (B1.out.trans (hb.mono B1.out.size))
      clear hb
      go_wp2_with fail
      go_ret
      exact ⟨rfl, B2.out⟩
    · have eL : decide ((100 : Int) < (L.length : Int)) = false := by rw [decide_eq_false_iff_not]; omega
      have h100L : L.length ≤ 100 := by omega
      clear hlongL
      have V1 := Lib.hid (fun w h => Validate_any g w h hf)
      have V2 := Lib.hid (fun w h => rValidate_any g w h hf)
      have C1 := Lib.hid (fun w h q => Before_any g A c L w h hf q hmL)
      have C2 := Lib.hid (fun w h q => rBefore_any g A c L w h hf q hmL)
      have hx := bef_le g.G L
      clear hf hbl n100 r100 rr100
      generalize befL g.G L = X at *
      generalize askE g.G L = E at *
      generalize gE g.G = E0 at *
      unfold Gv.v at HLg V1 V2 C1 C2 ⊢
      obtain ⟨A0, c0, own, A1, c1, rs⟩ := g
      simp only at hW p0 p1 HLg V1 V2 C1 C2 ⊢
      go_enter Try.func3, Try.ntmps3
      go_wp2_with fail
      refine (HLg.out).mono ?_
      rintro e w1 ⟨rfl, hb⟩
      have B1 := Lib.hid (B0.out.trans (hb.mono B0.out.size))
      have RG1 := Lib.hid (RG0.out.up hb)
      have L_1 := Lib.hid (L_0.out.up hb)
      have q0_1 := cell_keep p0 hb hz
      have q1_1 := cell_keep p1 hb hz
      have z1 : w.heap.size < w1.heap.size := Nat.lt_of_lt_of_le hz hb.size
      clear p0 p1 hz hW
      clear hb
      go_wp2_with fail
      refine (C1.out w1 RG1.out L_1.out).mono ?_
      rintro e w2 ⟨A3, c3, rfl, hc3, hfA3, hrA3, hb⟩
      have B2 := Lib.hid (B1.out.trans (hb.mono B1.out.size))
      have RG2 := Lib.hid (RG1.out.up hb)
      have L_2 := Lib.hid (L_1.out.up hb)
      have q0_2 := cell_keep q0_1 hb z1
      have q1_2 := cell_keep q1_1 hb z1
      have z2 : w.heap.size < w2.heap.size := Nat.lt_of_lt_of_le z1 hb.size
      clear q0_1 q1_1 z1
      clear hb
      have X_2 := Lib.hid hrA3
      clear hfA3 hrA3
      go_wp2_with fail
      refine (C2.out w2 RG2.out L_2.out).mono ?_
      rintro e w3 ⟨A4, c4, rfl, hc4, hfA4, hrA4, hb⟩
      have B3 := Lib.hid (B2.out.trans (hb.mono B2.out.size))
      have RG3 := Lib.hid (RG2.out.up hb)
      have L_3 := Lib.hid (L_2.out.up hb)
      have X_3 := Lib.hid (X_2.out.up hb)
      have q0_3 := cell_keep q0_2 hb z2
      have q1_3 := cell_keep q1_2 hb z2
      have z3 : w.heap.size < w3.heap.size := Nat.lt_of_lt_of_le z2 hb.size
      clear q0_2 q1_2 z2
      clear hb
      have Y_3 := Lib.hid hrA4
      clear hfA4 hrA4
      have g0 := fun d os => cell_regrown q0_3 d os
      have g1 := fun d os => cell_regrown q1_3 d os
      go_wp2_with fail
      refine wp_region_quiet_below (by kernel_rfl) (by kernel_rfl) ?_
      repeat (go_big_quiet_step (first | (with_reducible exact Calls.regrown_of (V1.out _ (RG3.out.up (below_regrown _ _ _)))) | (with_reducible exact Calls.regrown_of (V2.out _ (RG3.out.up (below_regrown _ _ _)))) | (with_reducible exact Calls.regrown_of (Same_b _ _ _ _ X _ _ _ rfl rfl (X_3.out.up (below_regrown _ _ _)) (Y_3.out.up (below_regrown _ _ _)) (by omega))) | (with_reducible exact Calls.regrown_of (known_ok _))))
      refine wpQuiet_nil ?_
      intro _ hw'
      obtain ⟨⟨dq, osq⟩, hw''⟩ := hw'
      subst hw''
      have hb := below_regrown w3 dq osq
      obtain ⟨w4, hw4⟩ : ∃ w', Go.Sort.grow (redrawn w3 dq) osq = w' := ⟨_, rfl⟩
      rw [hw4] at hb ⊢
      clear hw4 g0 g1
      have B4 := Lib.hid (B3.out.trans (hb.mono B3.out.size))
      have RG4 := Lib.hid (RG3.out.up hb)
      have L_4 := Lib.hid (L_3.out.up hb)
      have X_4 := Lib.hid (X_3.out.up hb)
      have Y_4 := Lib.hid (Y_3.out.up hb)
      have q0_4 := cell_keep q0_3 hb z3
      have q1_4 := cell_keep q1_3 hb z3
      have z4 : w.heap.size < w4.heap.size := Nat.lt_of_lt_of_le z3 hb.size
      clear q0_3 q1_3 z3
      clear hb
      go_wp2_with fail
      go_ret
      exact ⟨rfl, B4.out⟩
  · rw [hbl] at HLg
    clear hf hbl
    unfold Gv.v at HLg ⊢
    obtain ⟨A0, c0, own, A1, c1, rs⟩ := g
    simp only at hW p0 p1 HLg ⊢
    go_enter Try.func3, Try.ntmps3
    go_wp2_with fail
    refine (HLg.out).mono ?_
    rintro e w1 ⟨rfl, hb⟩
    have B1 := Lib.hid (B0.out.trans (hb.mono B0.out.size))
    clear hb
    go_wp2_with fail
    refine (known_ok w1).mono ?_
    rintro e w2 ⟨rfl, hb⟩
    have B2 := Lib.hid (B1.out.trans (hb.mono B1.out.size))
    clear hb
    go_wp2_with fail
    go_ret
    exact ⟨rfl, B2.out⟩
end Go.Proofs.Ytibcjkpfpiamkaa

/-
  The walks of the laws LurePlays: they return true. Conditions: the game and the lists can be read.
-/
import Derived.Test.YtibcjkpfpiamkaaLwPlans
import Derived.Test.YtibcjkpfpiamkaaLu27
import Derived.Test.YtibcjkpfpiamkaaLay5
namespace Go.Proofs.Ytibcjkpfpiamkaa
open Go.RowKit
set_option linter.unusedVariables false

theorem ply_le (G : Gm) (man ducks : List Int) (f m : Int) : (plyL G man ducks f m).length ≤ 101 := by
  unfold plyL
  split
  · rename_i h
    have := (ply_ok h).2.2.2.2
    rw [wayK_len]
    omega
  · simp
set_option maxRecDepth 4000 in
set_option maxHeartbeats 3200000 in
theorem LurePlays_walk (g : Gv)  (mt : Mt) (w : World) (hr : RdG w w.heap.size g) (hf : Gfit g)  (hmt : Mfit w mt) :
    Calls Try.prog 10 #[g.v, mt.v] w fun e w' => e = .returned (.bool true) ∧ Below w.heap.size w w' := by
  obtain ⟨W, hW, p0', p1', hz', hb', hr1'⟩ := box_game w g 25 hr
  obtain ⟨W0, hW0, k0, s0, b0⟩ := one_blk W #[.slice mt.A0 mt.man.length mt.c0, .slice mt.A1 mt.ducks.length mt.c1, .int .i64 mt.from_, .int .i64 mt.moves] 40
  have hb : Below w.heap.size w W0 := hb'.trans (b0.mono hb'.size)
  have p0 := cell_keep p0' b0 hz'
  have p1 := cell_keep p1' b0 hz'
  have hz : w.heap.size < W0.heap.size := Nat.lt_of_lt_of_le hz' b0.size
  have hr1 := hr1'.up b0
  have m0_0 : W0.cell? ⟨W.heap.size, 0, none⟩ = some (.slice mt.A0 mt.man.length mt.c0) := by rw [blk_cell k0]; rfl
  have m1_0 : W0.cell? ⟨W.heap.size, 1, none⟩ = some (.slice mt.A1 mt.ducks.length mt.c1) := by rw [blk_cell k0]; rfl
  have m2_0 : W0.cell? ⟨W.heap.size, 2, none⟩ = some (.int .i64 mt.from_) := by rw [blk_cell k0]; rfl
  have m3_0 : W0.cell? ⟨W.heap.size, 3, none⟩ = some (.int .i64 mt.moves) := by rw [blk_cell k0]; rfl
  have y_0 : W.heap.size < W0.heap.size := s0
  have B0 := Lib.hid hb
  have RG0 := Lib.hid hr1
  have HLg := Lib.hid (Large_any g W0 hr1 hf)
  have man_0 := Lib.hid (hmt.r0.up hb)
  have ducks_0 := Lib.hid (hmt.r1.up hb)
  have hmman : mt.man.length ≤ 9223372036854775807 := by have h1 := hmt.l0; have h2 := hmt.k0; unfold maxLen at h2; omega
  have hmducks : mt.ducks.length ≤ 9223372036854775807 := by have h1 := hmt.l1; have h2 := hmt.k1; unfold maxLen at h2; omega
  clear hr hb hr1 hr1' hb' p0' p1' hz' b0 k0 s0 hmt 
  unfold Mt.v
  obtain ⟨MA, mc, man, DA, dc, ducks, from_, moves⟩ := mt
  simp only at hW0 m0_0 m1_0 m2_0 m3_0 man_0 ducks_0 hmman hmducks ⊢
  cases hbl : largeB g
  · obtain ⟨n100, r100, rr100⟩ := large_fit hbl
    rw [hbl] at HLg
    by_cases hlongman : 100 < man.length
    · have eman : decide ((100 : Int) < (man.length : Int)) = true := by rw [decide_eq_true_eq]; omega
      clear hlongman n100 r100 rr100
      clear hf hbl
      unfold Gv.v at HLg ⊢
      obtain ⟨A0, c0, own, A1, c1, rs⟩ := g
      simp only at hW p0 p1 HLg ⊢
      go_enter Try.func10, Try.ntmps10
      go_wp2_with fail
      refine (HLg.out).mono ?_
      rintro e w1 ⟨rfl, hb⟩
      have m0_1 := cell_keep m0_0 hb y_0
      have m1_1 := cell_keep m1_0 hb y_0
      have m2_1 := cell_keep m2_0 hb y_0
      have m3_1 := cell_keep m3_0 hb y_0
      have y_1 : W.heap.size < w1.heap.size := Nat.lt_of_lt_of_le y_0 hb.size
      clear m0_0 m1_0 m2_0 m3_0 y_0 hW0
      have B1 := Lib.hid (B0.out.trans (hb.mono B0.out.size))
      have RG1 := Lib.hid (RG0.out.up hb)
      have man_1 := Lib.hid (man_0.out.up hb)
      have ducks_1 := Lib.hid (ducks_0.out.up hb)
      have q0_1 := cell_keep p0 hb hz
      have q1_1 := cell_keep p1 hb hz
      have z1 : w.heap.size < w1.heap.size := Nat.lt_of_lt_of_le hz hb.size
      clear p0 p1 hz hW
      clear hb
      go_wp2_with fail
      refine (known_ok w1).mono ?_
      rintro e w2 ⟨rfl, hb⟩
      have m0_2 := cell_keep m0_1 hb y_1
      have m1_2 := cell_keep m1_1 hb y_1
      have m2_2 := cell_keep m2_1 hb y_1
      have m3_2 := cell_keep m3_1 hb y_1
      have y_2 : W.heap.size < w2.heap.size := Nat.lt_of_lt_of_le y_1 hb.size
      clear m0_1 m1_1 m2_1 m3_1 y_1
      have B2 := Lib.hid (B1.out.trans (hb.mono B1.out.size))
      have RG2 := Lib.hid (RG1.out.up hb)
      have man_2 := Lib.hid (man_1.out.up hb)
      have ducks_2 := Lib.hid (ducks_1.out.up hb)
      have q0_2 := cell_keep q0_1 hb z1
      have q1_2 := cell_keep q1_1 hb z1
      have z2 : w.heap.size < w2.heap.size := Nat.lt_of_lt_of_le z1 hb.size
      clear q0_1 q1_1 z1
      clear hb
      go_wp2_with fail
      go_ret
      exact ⟨rfl, B2.out⟩
    · have eman : decide ((100 : Int) < (man.length : Int)) = false := by rw [decide_eq_false_iff_not]; omega
      have h100man : man.length ≤ 100 := by omega
      clear hlongman
      by_cases hlongducks : 100 < ducks.length
      · have educks : decide ((100 : Int) < (ducks.length : Int)) = true := by rw [decide_eq_true_eq]; omega
        clear hlongducks n100 r100 rr100
        clear hf hbl
        unfold Gv.v at HLg ⊢
        obtain ⟨A0, c0, own, A1, c1, rs⟩ := g
        simp only at hW p0 p1 HLg ⊢
        go_enter Try.func10, Try.ntmps10
        go_wp2_with fail
        refine (HLg.out).mono ?_
        rintro e w1 ⟨rfl, hb⟩
        have m0_1 := cell_keep m0_0 hb y_0
        have m1_1 := cell_keep m1_0 hb y_0
        have m2_1 := cell_keep m2_0 hb y_0
        have m3_1 := cell_keep m3_0 hb y_0
        have y_1 : W.heap.size < w1.heap.size := Nat.lt_of_lt_of_le y_0 hb.size
        clear m0_0 m1_0 m2_0 m3_0 y_0 hW0
        have B1 := Lib.hid (B0.out.trans (hb.mono B0.out.size))
        have RG1 := Lib.hid (RG0.out.up hb)
        have man_1 := Lib.hid (man_0.out.up hb)
        have ducks_1 := Lib.hid (ducks_0.out.up hb)
        have q0_1 := cell_keep p0 hb hz
        have q1_1 := cell_keep p1 hb hz
        have z1 : w.heap.size < w1.heap.size := Nat.lt_of_lt_of_le hz hb.size
        clear p0 p1 hz hW
        clear hb
        go_wp2_with fail
        refine (known_ok w1).mono ?_
        rintro e w2 ⟨rfl, hb⟩
        have m0_2 := cell_keep m0_1 hb y_1
        have m1_2 := cell_keep m1_1 hb y_1
        have m2_2 := cell_keep m2_1 hb y_1
        have m3_2 := cell_keep m3_1 hb y_1
        have y_2 : W.heap.size < w2.heap.size := Nat.lt_of_lt_of_le y_1 hb.size
        clear m0_1 m1_1 m2_1 m3_1 y_1
        have B2 := Lib.hid (B1.out.trans (hb.mono B1.out.size))
        have RG2 := Lib.hid (RG1.out.up hb)
        have man_2 := Lib.hid (man_1.out.up hb)
        have ducks_2 := Lib.hid (ducks_1.out.up hb)
        have q0_2 := cell_keep q0_1 hb z1
        have q1_2 := cell_keep q1_1 hb z1
        have z2 : w.heap.size < w2.heap.size := Nat.lt_of_lt_of_le z1 hb.size
        clear q0_1 q1_1 z1
        clear hb
        go_wp2_with fail
        go_ret
        exact ⟨rfl, B2.out⟩
      · have educks : decide ((100 : Int) < (ducks.length : Int)) = false := by rw [decide_eq_false_iff_not]; omega
        have h100ducks : ducks.length ≤ 100 := by omega
        clear hlongducks
        have C1 := Lib.hid (fun w h q r => Play_any g MA mc man DA dc ducks from_ moves w h hf q r)
        have C2 := Lib.hid (fun w h q r => rPlay_any g MA mc man DA dc ducks from_ moves w h hf q r)
        have hx := ply_le g.G man ducks from_ moves
        clear hf hbl n100 r100 rr100
        generalize plyL g.G man ducks from_ moves = X at *
        generalize plyE g.G man ducks from_ moves = E at *
        unfold Gv.v at HLg C1 C2 ⊢
        obtain ⟨A0, c0, own, A1, c1, rs⟩ := g
        simp only at hW p0 p1 HLg C1 C2 ⊢
        go_enter Try.func10, Try.ntmps10
        go_wp2_with fail
        refine (HLg.out).mono ?_
        rintro e w1 ⟨rfl, hb⟩
        have m0_1 := cell_keep m0_0 hb y_0
        have m1_1 := cell_keep m1_0 hb y_0
        have m2_1 := cell_keep m2_0 hb y_0
        have m3_1 := cell_keep m3_0 hb y_0
        have y_1 : W.heap.size < w1.heap.size := Nat.lt_of_lt_of_le y_0 hb.size
        clear m0_0 m1_0 m2_0 m3_0 y_0 hW0
        have B1 := Lib.hid (B0.out.trans (hb.mono B0.out.size))
        have RG1 := Lib.hid (RG0.out.up hb)
        have man_1 := Lib.hid (man_0.out.up hb)
        have ducks_1 := Lib.hid (ducks_0.out.up hb)
        have q0_1 := cell_keep p0 hb hz
        have q1_1 := cell_keep p1 hb hz
        have z1 : w.heap.size < w1.heap.size := Nat.lt_of_lt_of_le hz hb.size
        clear p0 p1 hz hW
        clear hb
        go_wp2_with fail
        refine (C1.out w1 RG1.out man_1.out ducks_1.out).mono ?_
        rintro e w2 ⟨A3, c3, rfl, hc3, hfA3, hrA3, hb⟩
        have m0_2 := cell_keep m0_1 hb y_1
        have m1_2 := cell_keep m1_1 hb y_1
        have m2_2 := cell_keep m2_1 hb y_1
        have m3_2 := cell_keep m3_1 hb y_1
        have y_2 : W.heap.size < w2.heap.size := Nat.lt_of_lt_of_le y_1 hb.size
        clear m0_1 m1_1 m2_1 m3_1 y_1
        have B2 := Lib.hid (B1.out.trans (hb.mono B1.out.size))
        have RG2 := Lib.hid (RG1.out.up hb)
        have man_2 := Lib.hid (man_1.out.up hb)
        have ducks_2 := Lib.hid (ducks_1.out.up hb)
        have q0_2 := cell_keep q0_1 hb z1
        have q1_2 := cell_keep q1_1 hb z1
        have z2 : w.heap.size < w2.heap.size := Nat.lt_of_lt_of_le z1 hb.size
        clear q0_1 q1_1 z1
        clear hb
        have X_2 := Lib.hid hrA3
        clear hfA3 hrA3
        go_wp2_with fail
        refine (C2.out w2 RG2.out man_2.out ducks_2.out).mono ?_
        rintro e w3 ⟨A4, c4, rfl, hc4, hfA4, hrA4, hb⟩
        have m0_3 := cell_keep m0_2 hb y_2
        have m1_3 := cell_keep m1_2 hb y_2
        have m2_3 := cell_keep m2_2 hb y_2
        have m3_3 := cell_keep m3_2 hb y_2
        have y_3 : W.heap.size < w3.heap.size := Nat.lt_of_lt_of_le y_2 hb.size
        clear m0_2 m1_2 m2_2 m3_2 y_2
        have B3 := Lib.hid (B2.out.trans (hb.mono B2.out.size))
        have RG3 := Lib.hid (RG2.out.up hb)
        have man_3 := Lib.hid (man_2.out.up hb)
        have ducks_3 := Lib.hid (ducks_2.out.up hb)
        have X_3 := Lib.hid (X_2.out.up hb)
        have q0_3 := cell_keep q0_2 hb z2
        have q1_3 := cell_keep q1_2 hb z2
        have z3 : w.heap.size < w3.heap.size := Nat.lt_of_lt_of_le z2 hb.size
        clear q0_2 q1_2 z2
        clear hb
        have Y_3 := Lib.hid hrA4
        clear hfA4 hrA4
        go_wp2_with fail
        refine (Same_b A3 A4 c3 c4 X _ _ w3 rfl rfl X_3.out Y_3.out (by omega)).mono ?_
        rintro e w4 ⟨rfl, hb⟩
        have m0_4 := cell_keep m0_3 hb y_3
        have m1_4 := cell_keep m1_3 hb y_3
        have m2_4 := cell_keep m2_3 hb y_3
        have m3_4 := cell_keep m3_3 hb y_3
        have y_4 : W.heap.size < w4.heap.size := Nat.lt_of_lt_of_le y_3 hb.size
        clear m0_3 m1_3 m2_3 m3_3 y_3
        have B4 := Lib.hid (B3.out.trans (hb.mono B3.out.size))
        have RG4 := Lib.hid (RG3.out.up hb)
        have man_4 := Lib.hid (man_3.out.up hb)
        have ducks_4 := Lib.hid (ducks_3.out.up hb)
        have X_4 := Lib.hid (X_3.out.up hb)
        have Y_4 := Lib.hid (Y_3.out.up hb)
        have q0_4 := cell_keep q0_3 hb z3
        have q1_4 := cell_keep q1_3 hb z3
        have z4 : w.heap.size < w4.heap.size := Nat.lt_of_lt_of_le z3 hb.size
        clear q0_3 q1_3 z3
        clear hb
        go_wp2_with fail
        refine (known_ok w4).mono ?_
        rintro e w5 ⟨rfl, hb⟩
        have m0_5 := cell_keep m0_4 hb y_4
        have m1_5 := cell_keep m1_4 hb y_4
        have m2_5 := cell_keep m2_4 hb y_4
        have m3_5 := cell_keep m3_4 hb y_4
        have y_5 : W.heap.size < w5.heap.size := Nat.lt_of_lt_of_le y_4 hb.size
        clear m0_4 m1_4 m2_4 m3_4 y_4
        have B5 := Lib.hid (B4.out.trans (hb.mono B4.out.size))
        have RG5 := Lib.hid (RG4.out.up hb)
        have man_5 := Lib.hid (man_4.out.up hb)
        have ducks_5 := Lib.hid (ducks_4.out.up hb)
        have X_5 := Lib.hid (X_4.out.up hb)
        have Y_5 := Lib.hid (Y_4.out.up hb)
        have q0_5 := cell_keep q0_4 hb z4
        have q1_5 := cell_keep q1_4 hb z4
        have z5 : w.heap.size < w5.heap.size := Nat.lt_of_lt_of_le z4 hb.size
        clear q0_4 q1_4 z4
        clear hb
        go_wp2_with fail
        go_ret
        exact ⟨rfl, B5.out⟩
  · rw [hbl] at HLg
    clear hf hbl
    unfold Gv.v at HLg ⊢
    obtain ⟨A0, c0, own, A1, c1, rs⟩ := g
    simp only at hW p0 p1 HLg ⊢
    go_enter Try.func10, Try.ntmps10
    go_wp2_with fail
    refine (HLg.out).mono ?_
    rintro e w1 ⟨rfl, hb⟩
    have m0_1 := cell_keep m0_0 hb y_0
    have m1_1 := cell_keep m1_0 hb y_0
    have m2_1 := cell_keep m2_0 hb y_0
    have m3_1 := cell_keep m3_0 hb y_0
    have y_1 : W.heap.size < w1.heap.size := Nat.lt_of_lt_of_le y_0 hb.size
    clear m0_0 m1_0 m2_0 m3_0 y_0 hW0
    have B1 := Lib.hid (B0.out.trans (hb.mono B0.out.size))
    have RG1 := Lib.hid (RG0.out.up hb)
    have man_1 := Lib.hid (man_0.out.up hb)
    have ducks_1 := Lib.hid (ducks_0.out.up hb)
    have q0_1 := cell_keep p0 hb hz
    have q1_1 := cell_keep p1 hb hz
    have z1 : w.heap.size < w1.heap.size := Nat.lt_of_lt_of_le hz hb.size
    clear p0 p1 hz hW
    clear hb
    go_wp2_with fail
    refine (known_ok w1).mono ?_
    rintro e w2 ⟨rfl, hb⟩
    have m0_2 := cell_keep m0_1 hb y_1
    have m1_2 := cell_keep m1_1 hb y_1
    have m2_2 := cell_keep m2_1 hb y_1
    have m3_2 := cell_keep m3_1 hb y_1
    have y_2 : W.heap.size < w2.heap.size := Nat.lt_of_lt_of_le y_1 hb.size
    clear m0_1 m1_1 m2_1 m3_1 y_1
    have B2 := Lib.hid (B1.out.trans (hb.mono B1.out.size))
    have RG2 := Lib.hid (RG1.out.up hb)
    have man_2 := Lib.hid (man_1.out.up hb)
    have ducks_2 := Lib.hid (ducks_1.out.up hb)
    have q0_2 := cell_keep q0_1 hb z1
    have q1_2 := cell_keep q1_1 hb z1
    have z2 : w.heap.size < w2.heap.size := Nat.lt_of_lt_of_le z1 hb.size
    clear q0_1 q1_1 z1
    clear hb
    go_wp2_with fail
    go_ret
    exact ⟨rfl, B2.out⟩
end Go.Proofs.Ytibcjkpfpiamkaa

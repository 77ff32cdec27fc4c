/-
  The walk of the law WindRoses: it returns true. Condition: 'Tabs'.
-/
import Derived.Test.YtnnlbllkckakbaaDoorWi16
import Derived.Test.YtnnlbllkckakbaaDoorLwAdds
namespace Go.Proofs.YtnnlbllkckakbaaDoor
open Go.RowKit
set_option linter.unusedVariables false

theorem bK_max {L : List Int} {v : Int} : ∀ {k : Nat} (p : Nat), p ≤ k → roS ⟨(p : Int), v⟩ L ≤ roS ⟨(bK L v k : Nat), v⟩ L
  | 0, p, h => by
    obtain rfl : p = 0 := by omega
    exact Int.le_refl _
  | k + 1, p, h => by
    by_cases hlt : roS ⟨(bK L v k : Nat), v⟩ L < roS ⟨((k + 1 : Nat) : Int), v⟩ L
    · rw [bK_yes hlt]
      by_cases hp : p = k + 1
      · subst hp; exact Int.le_refl _
      · have := bK_max (L := L) (v := v) (k := k) p (by omega)
        omega
    · rw [bK_no hlt]
      by_cases hp : p = k + 1
      · subst hp; omega
      · exact bK_max p (by omega)
set_option maxHeartbeats 4000000 in
set_option maxRecDepth 100000 in
theorem WindRoses_walk (L : List Int) (a : Pt) (v : Int) (w : World) (ht : Tabs w) (hL : Rose L) :
    Calls Tryd.prog 13 #[.agg (rv L), a.v, .int .i64 v] w fun e w' => e = .returned (.bool true) ∧ Below w.heap.size w w' := by
  have HT := Lib.hid ht
  clear ht
  obtain ⟨W1, hW1, hblk1, hs1, hb1⟩ := one_blk w (rv L) 62
  obtain ⟨W2, hW2, h0, h1, hs2, hb2⟩ := one_pt W1 (.int .i64 a.x) (.int .i64 a.y) 23
  have BK2 := Lib.hid ((hb2.block _ hs1).trans hblk1)
  have K2 := Lib.hid (And.intro h0 h1)
  have L2 := Lib.hid hs2
  have B2 := Lib.hid (hb1.trans (hb2.mono hb1.size))
  have HSz := Lib.hid (size_roseL hL)
  clear hblk1 hs1 hb1 hs2 hb2
  have C1 := Lib.hid (fun w => Sum_any L a w hL)
  have C2 := Lib.hid (fun w => rSum_any L a w hL)
  have C3 := Lib.hid (fun w => Best_any L v w hL)
  have C4 := Lib.hid (fun w => rBest_any L v w hL)
  unfold BestPost at C3 C4
  obtain ⟨A, hA⟩ : ∃ A, bestA L v = A := ⟨_, rfl⟩
  rw [hA] at C3 C4
  clear hA
  obtain ⟨X, Y⟩ := A
  by_cases hE : sumE a L = 0
  · by_cases hG : bestE L v = 0
    · by_cases hy : a.y = v
      · have hle : sumV a L ≤ bestN L v := by
          obtain ⟨h1, hr⟩ := sumE_zero hE
          have h2 := arcE_zero h1
          have hwd : wd v = true := by rw [wd_iff, ← hy]; exact h2.2
          have e1 : sumV a L = roS a L := if_pos hE
          have e2 : bestN L v = roS ⟨(bK L v 31 : Nat), v⟩ L := if_pos (by rw [hr, hwd]; rfl)
          obtain ⟨p, hp⟩ := Int.eq_ofNat_of_zero_le h2.1.1
          have e3 : a = ⟨(p : Int), v⟩ := by
            obtain ⟨x, y⟩ := a
            simp only at hp hy
            rw [hp, hy]
          rw [e1, e2, e3]
          exact bK_max p (by omega)
        rw [hE] at C1 C2
        rw [hG] at C3 C4
        generalize sumV a L = S at *
        generalize bestN L v = N at *
        obtain ⟨x, y⟩ := a
        simp only at hy
        subst hy
        unfold Pt.v at *
        simp only at C1 C2 C3 C4 hW2 h0 h1 K2 ⊢
        clear hE hG
        have ka := K2.out.1
        have kb := K2.out.2
        go_enter Tryd.func13, Tryd.ntmps13
        go_wp2_with (refine wpList_load_row rfl 62 (.tmp 3) rfl w.heap.size rfl _ _ _ _ BK2.out Tryd.underlying62 rfl HSz.out ?_)
        clear hW1 hW2 h0 h1
        refine (C1.out W2).mono ?_
        rintro e w3 ⟨rfl, hb⟩
        have BK3 := Lib.hid ((hb.block _ (lt_of_block BK2.out)).trans BK2.out)
        have K3 := Lib.hid (pt_keep (And.intro K2.out.1 (And.intro K2.out.2 L2.out)) hb)
        have L3 := Lib.hid (World.block_lt_of_cell? w3 _ K3.out.1)
        have B3 := Lib.hid (B2.out.trans (hb.mono B2.out.size))
        clear hb ka kb
        have ka := K3.out.1
        have kb := K3.out.2
        go_wp2_with (refine wpList_load_row rfl 62 (.tmp 3) rfl w.heap.size rfl _ _ _ _ BK3.out Tryd.underlying62 rfl HSz.out ?_)
        refine (C2.out w3).mono ?_
        rintro e w4 ⟨rfl, hb⟩
        have BK4 := Lib.hid ((hb.block _ (lt_of_block BK3.out)).trans BK3.out)
        have K4 := Lib.hid (pt_keep (And.intro K3.out.1 (And.intro K3.out.2 L3.out)) hb)
        have L4 := Lib.hid (World.block_lt_of_cell? w4 _ K4.out.1)
        have B4 := Lib.hid (B3.out.trans (hb.mono B3.out.size))
        clear hb ka kb
        have ka := K4.out.1
        have kb := K4.out.2
        go_wp2_with (refine wpList_load_row rfl 62 (.tmp 3) rfl w.heap.size rfl _ _ _ _ BK4.out Tryd.underlying62 rfl HSz.out ?_)
        refine (C3.out w4).mono ?_
        rintro e w5 ⟨rfl, hb⟩
        have BK5 := Lib.hid ((hb.block _ (lt_of_block BK4.out)).trans BK4.out)
        have K5 := Lib.hid (pt_keep (And.intro K4.out.1 (And.intro K4.out.2 L4.out)) hb)
        have L5 := Lib.hid (World.block_lt_of_cell? w5 _ K5.out.1)
        have B5 := Lib.hid (B4.out.trans (hb.mono B4.out.size))
        clear hb ka kb
        have ka := K5.out.1
        have kb := K5.out.2
        obtain ⟨w6, hw6, x0, x1, s6, b6⟩ := one_pt w5 (.int .i64 X) (.int .i64 Y) 23
        have BK6 := Lib.hid ((b6.block _ (lt_of_block BK5.out)).trans BK5.out)
        have K6 := Lib.hid (pt_keep (And.intro K5.out.1 (And.intro K5.out.2 L5.out)) b6)
        have L6 := Lib.hid (World.block_lt_of_cell? w6 _ K6.out.1)
        have B6 := Lib.hid (B5.out.trans (b6.mono B5.out.size))
        have X6 := Lib.hid (And.intro x0 (And.intro x1 s6))
        clear b6 s6 x0 x1
        go_wp2_with (refine wpList_load_row rfl 62 (.tmp 3) rfl w.heap.size rfl _ _ _ _ BK6.out Tryd.underlying62 rfl HSz.out ?_)
        clear hw6 ka kb
        refine (C4.out w6).mono ?_
        rintro e w7 ⟨rfl, hb⟩
        have K7 := Lib.hid (pt_keep (And.intro K6.out.1 (And.intro K6.out.2 L6.out)) hb)
        have X7 := Lib.hid (pt_keep X6.out hb)
        have LX := Lib.hid (Nat.lt_of_lt_of_le X6.out.2.2 hb.size)
        have B7 := Lib.hid (B6.out.trans (hb.mono B6.out.size))
        clear hb
        obtain ⟨w8, hw8, y0, y1, s8, b8⟩ := one_pt w7 (.int .i64 X) (.int .i64 Y) 23
        have x8 := pt_keep (And.intro X7.out.1 (And.intro X7.out.2 LX.out)) b8
        have x0 := x8.1
        have x1 := x8.2
        have L7 := World.block_lt_of_cell? w7 _ K7.out.1
        have k8 := pt_keep (And.intro K7.out.1 (And.intro K7.out.2 L7)) b8
        have ka := k8.1
        have kb := k8.2
        have B8 := Lib.hid (B7.out.trans (b8.mono B7.out.size))
        have e1 := fun W => eq_in ⟨X, Y⟩ ⟨X, Y⟩ W
        have e2 := fun W => ne_pts ⟨X, Y⟩ ⟨X, Y⟩ W
        have e4 : eqP ⟨X, Y⟩ ⟨X, Y⟩ = true := by simp [eqP]
        have e3 := guard_arc
        simp only [e4] at e1 e2
        clear b8 s8 e4 x8 k8 L7
        go_wp2_with fail
        refine (known_ok _ (HT.out.below' B8.out)).mono ?_
        rintro e w9 ⟨rfl, hb⟩
        go_wp2_with fail
        go_ret
        exact ⟨rfl, B8.out.trans (hb.mono B8.out.size)⟩
      · rw [hE] at C1 C2
        rw [hG] at C3 C4
        generalize sumV a L = S at *
        generalize bestN L v = N at *
        obtain ⟨x, y⟩ := a
        simp only at hy
        have hyb : (y == v) = false := by simpa using hy
        have hyb2 : (y != v) = true := by simpa using hy
        unfold Pt.v at *
        simp only at C1 C2 C3 C4 hW2 h0 h1 K2 ⊢
        clear hE hG hy
        have ka := K2.out.1
        have kb := K2.out.2
        go_enter Tryd.func13, Tryd.ntmps13
        go_wp2_with (refine wpList_load_row rfl 62 (.tmp 3) rfl w.heap.size rfl _ _ _ _ BK2.out Tryd.underlying62 rfl HSz.out ?_)
        clear hW1 hW2 h0 h1
        refine (C1.out W2).mono ?_
        rintro e w3 ⟨rfl, hb⟩
        have BK3 := Lib.hid ((hb.block _ (lt_of_block BK2.out)).trans BK2.out)
        have K3 := Lib.hid (pt_keep (And.intro K2.out.1 (And.intro K2.out.2 L2.out)) hb)
        have L3 := Lib.hid (World.block_lt_of_cell? w3 _ K3.out.1)
        have B3 := Lib.hid (B2.out.trans (hb.mono B2.out.size))
        clear hb ka kb
        have ka := K3.out.1
        have kb := K3.out.2
        go_wp2_with (refine wpList_load_row rfl 62 (.tmp 3) rfl w.heap.size rfl _ _ _ _ BK3.out Tryd.underlying62 rfl HSz.out ?_)
        refine (C2.out w3).mono ?_
        rintro e w4 ⟨rfl, hb⟩
        have BK4 := Lib.hid ((hb.block _ (lt_of_block BK3.out)).trans BK3.out)
        have K4 := Lib.hid (pt_keep (And.intro K3.out.1 (And.intro K3.out.2 L3.out)) hb)
        have L4 := Lib.hid (World.block_lt_of_cell? w4 _ K4.out.1)
        have B4 := Lib.hid (B3.out.trans (hb.mono B3.out.size))
        clear hb ka kb
        have ka := K4.out.1
        have kb := K4.out.2
        go_wp2_with (refine wpList_load_row rfl 62 (.tmp 3) rfl w.heap.size rfl _ _ _ _ BK4.out Tryd.underlying62 rfl HSz.out ?_)
        refine (C3.out w4).mono ?_
        rintro e w5 ⟨rfl, hb⟩
        have BK5 := Lib.hid ((hb.block _ (lt_of_block BK4.out)).trans BK4.out)
        have K5 := Lib.hid (pt_keep (And.intro K4.out.1 (And.intro K4.out.2 L4.out)) hb)
        have L5 := Lib.hid (World.block_lt_of_cell? w5 _ K5.out.1)
        have B5 := Lib.hid (B4.out.trans (hb.mono B4.out.size))
        clear hb ka kb
        have ka := K5.out.1
        have kb := K5.out.2
        obtain ⟨w6, hw6, x0, x1, s6, b6⟩ := one_pt w5 (.int .i64 X) (.int .i64 Y) 23
        have BK6 := Lib.hid ((b6.block _ (lt_of_block BK5.out)).trans BK5.out)
        have K6 := Lib.hid (pt_keep (And.intro K5.out.1 (And.intro K5.out.2 L5.out)) b6)
        have L6 := Lib.hid (World.block_lt_of_cell? w6 _ K6.out.1)
        have B6 := Lib.hid (B5.out.trans (b6.mono B5.out.size))
        have X6 := Lib.hid (And.intro x0 (And.intro x1 s6))
        clear b6 s6 x0 x1
        go_wp2_with (refine wpList_load_row rfl 62 (.tmp 3) rfl w.heap.size rfl _ _ _ _ BK6.out Tryd.underlying62 rfl HSz.out ?_)
        clear hw6 ka kb
        refine (C4.out w6).mono ?_
        rintro e w7 ⟨rfl, hb⟩
        have K7 := Lib.hid (pt_keep (And.intro K6.out.1 (And.intro K6.out.2 L6.out)) hb)
        have X7 := Lib.hid (pt_keep X6.out hb)
        have LX := Lib.hid (Nat.lt_of_lt_of_le X6.out.2.2 hb.size)
        have B7 := Lib.hid (B6.out.trans (hb.mono B6.out.size))
        clear hb
        obtain ⟨w8, hw8, y0, y1, s8, b8⟩ := one_pt w7 (.int .i64 X) (.int .i64 Y) 23
        have x8 := pt_keep (And.intro X7.out.1 (And.intro X7.out.2 LX.out)) b8
        have x0 := x8.1
        have x1 := x8.2
        have L7 := World.block_lt_of_cell? w7 _ K7.out.1
        have k8 := pt_keep (And.intro K7.out.1 (And.intro K7.out.2 L7)) b8
        have ka := k8.1
        have kb := k8.2
        have B8 := Lib.hid (B7.out.trans (b8.mono B7.out.size))
        have e1 := fun W => eq_in ⟨X, Y⟩ ⟨X, Y⟩ W
        have e2 := fun W => ne_pts ⟨X, Y⟩ ⟨X, Y⟩ W
        have e4 : eqP ⟨X, Y⟩ ⟨X, Y⟩ = true := by simp [eqP]
        have e3 := guard_arc
        simp only [e4] at e1 e2
        clear b8 s8 e4 x8 k8 L7
        go_wp2_with fail
        refine (known_ok _ (HT.out.below' B8.out)).mono ?_
        rintro e w9 ⟨rfl, hb⟩
        go_wp2_with fail
        go_ret
        exact ⟨rfl, B8.out.trans (hb.mono B8.out.size)⟩
    · rw [hE] at C1 C2
      generalize bestE L v = G at *
      have hg1 : (G == 0) = false := by simpa using hG
      have hg2 : (G != 0) = true := by simpa using hG
      generalize sumV a L = S at *
      generalize bestN L v = N at *
      obtain ⟨x, y⟩ := a
      unfold Pt.v at *
      simp only at C1 C2 C3 C4 hW2 h0 h1 K2 ⊢
      clear hE hG
      have ka := K2.out.1
      have kb := K2.out.2
      go_enter Tryd.func13, Tryd.ntmps13
      go_wp2_with (refine wpList_load_row rfl 62 (.tmp 3) rfl w.heap.size rfl _ _ _ _ BK2.out Tryd.underlying62 rfl HSz.out ?_)
      clear hW1 hW2 h0 h1
      refine (C1.out W2).mono ?_
      rintro e w3 ⟨rfl, hb⟩
      have BK3 := Lib.hid ((hb.block _ (lt_of_block BK2.out)).trans BK2.out)
      have K3 := Lib.hid (pt_keep (And.intro K2.out.1 (And.intro K2.out.2 L2.out)) hb)
      have L3 := Lib.hid (World.block_lt_of_cell? w3 _ K3.out.1)
      have B3 := Lib.hid (B2.out.trans (hb.mono B2.out.size))
      clear hb ka kb
      have ka := K3.out.1
      have kb := K3.out.2
      go_wp2_with (refine wpList_load_row rfl 62 (.tmp 3) rfl w.heap.size rfl _ _ _ _ BK3.out Tryd.underlying62 rfl HSz.out ?_)
      refine (C2.out w3).mono ?_
      rintro e w4 ⟨rfl, hb⟩
      have BK4 := Lib.hid ((hb.block _ (lt_of_block BK3.out)).trans BK3.out)
      have K4 := Lib.hid (pt_keep (And.intro K3.out.1 (And.intro K3.out.2 L3.out)) hb)
      have L4 := Lib.hid (World.block_lt_of_cell? w4 _ K4.out.1)
      have B4 := Lib.hid (B3.out.trans (hb.mono B3.out.size))
      clear hb ka kb
      have ka := K4.out.1
      have kb := K4.out.2
      go_wp2_with (refine wpList_load_row rfl 62 (.tmp 3) rfl w.heap.size rfl _ _ _ _ BK4.out Tryd.underlying62 rfl HSz.out ?_)
      refine (C3.out w4).mono ?_
      rintro e w5 ⟨rfl, hb⟩
      have BK5 := Lib.hid ((hb.block _ (lt_of_block BK4.out)).trans BK4.out)
      have K5 := Lib.hid (pt_keep (And.intro K4.out.1 (And.intro K4.out.2 L4.out)) hb)
      have L5 := Lib.hid (World.block_lt_of_cell? w5 _ K5.out.1)
      have B5 := Lib.hid (B4.out.trans (hb.mono B4.out.size))
      clear hb ka kb
      have ka := K5.out.1
      have kb := K5.out.2
      obtain ⟨w6, hw6, x0, x1, s6, b6⟩ := one_pt w5 (.int .i64 X) (.int .i64 Y) 23
      have BK6 := Lib.hid ((b6.block _ (lt_of_block BK5.out)).trans BK5.out)
      have K6 := Lib.hid (pt_keep (And.intro K5.out.1 (And.intro K5.out.2 L5.out)) b6)
      have L6 := Lib.hid (World.block_lt_of_cell? w6 _ K6.out.1)
      have B6 := Lib.hid (B5.out.trans (b6.mono B5.out.size))
      have X6 := Lib.hid (And.intro x0 (And.intro x1 s6))
      clear b6 s6 x0 x1
      go_wp2_with (refine wpList_load_row rfl 62 (.tmp 3) rfl w.heap.size rfl _ _ _ _ BK6.out Tryd.underlying62 rfl HSz.out ?_)
      clear hw6 ka kb
      refine (C4.out w6).mono ?_
      rintro e w7 ⟨rfl, hb⟩
      have K7 := Lib.hid (pt_keep (And.intro K6.out.1 (And.intro K6.out.2 L6.out)) hb)
      have X7 := Lib.hid (pt_keep X6.out hb)
      have LX := Lib.hid (Nat.lt_of_lt_of_le X6.out.2.2 hb.size)
      have B7 := Lib.hid (B6.out.trans (hb.mono B6.out.size))
      clear hb
      obtain ⟨w8, hw8, y0, y1, s8, b8⟩ := one_pt w7 (.int .i64 X) (.int .i64 Y) 23
      have x8 := pt_keep (And.intro X7.out.1 (And.intro X7.out.2 LX.out)) b8
      have x0 := x8.1
      have x1 := x8.2
      have L7 := World.block_lt_of_cell? w7 _ K7.out.1
      have k8 := pt_keep (And.intro K7.out.1 (And.intro K7.out.2 L7)) b8
      have ka := k8.1
      have kb := k8.2
      have B8 := Lib.hid (B7.out.trans (b8.mono B7.out.size))
      have e1 := fun W => eq_in ⟨X, Y⟩ ⟨X, Y⟩ W
      have e2 := fun W => ne_pts ⟨X, Y⟩ ⟨X, Y⟩ W
      have e4 : eqP ⟨X, Y⟩ ⟨X, Y⟩ = true := by simp [eqP]
      have e3 := guard_arc
      simp only [e4] at e1 e2
      clear b8 s8 e4 x8 k8 L7
      go_wp2_with fail
      refine (known_ok _ (HT.out.below' B8.out)).mono ?_
      rintro e w9 ⟨rfl, hb⟩
      go_wp2_with fail
      go_ret
      exact ⟨rfl, B8.out.trans (hb.mono B8.out.size)⟩
  · generalize sumE a L = E at *
    have he1 : (E == 0) = false := by simpa using hE
    have he2 : (E != 0) = true := by simpa using hE
    generalize bestE L v = G at *
    generalize sumV a L = S at *
    generalize bestN L v = N at *
    obtain ⟨x, y⟩ := a
    unfold Pt.v at *
    simp only at C1 C2 C3 C4 hW2 h0 h1 K2 ⊢
    clear hE
    have ka := K2.out.1
    have kb := K2.out.2
    go_enter Tryd.func13, Tryd.ntmps13
    go_wp2_with (refine wpList_load_row rfl 62 (.tmp 3) rfl w.heap.size rfl _ _ _ _ BK2.out Tryd.underlying62 rfl HSz.out ?_)
    clear hW1 hW2 h0 h1
    refine (C1.out W2).mono ?_
    rintro e w3 ⟨rfl, hb⟩
    have BK3 := Lib.hid ((hb.block _ (lt_of_block BK2.out)).trans BK2.out)
    have K3 := Lib.hid (pt_keep (And.intro K2.out.1 (And.intro K2.out.2 L2.out)) hb)
    have L3 := Lib.hid (World.block_lt_of_cell? w3 _ K3.out.1)
    have B3 := Lib.hid (B2.out.trans (hb.mono B2.out.size))
    clear hb ka kb
    have ka := K3.out.1
    have kb := K3.out.2
    go_wp2_with (refine wpList_load_row rfl 62 (.tmp 3) rfl w.heap.size rfl _ _ _ _ BK3.out Tryd.underlying62 rfl HSz.out ?_)
    refine (C2.out w3).mono ?_
    rintro e w4 ⟨rfl, hb⟩
    have BK4 := Lib.hid ((hb.block _ (lt_of_block BK3.out)).trans BK3.out)
    have K4 := Lib.hid (pt_keep (And.intro K3.out.1 (And.intro K3.out.2 L3.out)) hb)
    have L4 := Lib.hid (World.block_lt_of_cell? w4 _ K4.out.1)
    have B4 := Lib.hid (B3.out.trans (hb.mono B3.out.size))
    clear hb ka kb
    have ka := K4.out.1
    have kb := K4.out.2
    go_wp2_with (refine wpList_load_row rfl 62 (.tmp 3) rfl w.heap.size rfl _ _ _ _ BK4.out Tryd.underlying62 rfl HSz.out ?_)
    refine (C3.out w4).mono ?_
    rintro e w5 ⟨rfl, hb⟩
    have BK5 := Lib.hid ((hb.block _ (lt_of_block BK4.out)).trans BK4.out)
    have K5 := Lib.hid (pt_keep (And.intro K4.out.1 (And.intro K4.out.2 L4.out)) hb)
    have L5 := Lib.hid (World.block_lt_of_cell? w5 _ K5.out.1)
    have B5 := Lib.hid (B4.out.trans (hb.mono B4.out.size))
    clear hb ka kb
    have ka := K5.out.1
    have kb := K5.out.2
    obtain ⟨w6, hw6, x0, x1, s6, b6⟩ := one_pt w5 (.int .i64 X) (.int .i64 Y) 23
    have BK6 := Lib.hid ((b6.block _ (lt_of_block BK5.out)).trans BK5.out)
    have K6 := Lib.hid (pt_keep (And.intro K5.out.1 (And.intro K5.out.2 L5.out)) b6)
    have L6 := Lib.hid (World.block_lt_of_cell? w6 _ K6.out.1)
    have B6 := Lib.hid (B5.out.trans (b6.mono B5.out.size))
    have X6 := Lib.hid (And.intro x0 (And.intro x1 s6))
    clear b6 s6 x0 x1
    go_wp2_with (refine wpList_load_row rfl 62 (.tmp 3) rfl w.heap.size rfl _ _ _ _ BK6.out Tryd.underlying62 rfl HSz.out ?_)
    clear hw6 ka kb
    refine (C4.out w6).mono ?_
    rintro e w7 ⟨rfl, hb⟩
    have K7 := Lib.hid (pt_keep (And.intro K6.out.1 (And.intro K6.out.2 L6.out)) hb)
    have X7 := Lib.hid (pt_keep X6.out hb)
    have LX := Lib.hid (Nat.lt_of_lt_of_le X6.out.2.2 hb.size)
    have B7 := Lib.hid (B6.out.trans (hb.mono B6.out.size))
    clear hb
    obtain ⟨w8, hw8, y0, y1, s8, b8⟩ := one_pt w7 (.int .i64 X) (.int .i64 Y) 23
    have x8 := pt_keep (And.intro X7.out.1 (And.intro X7.out.2 LX.out)) b8
    have x0 := x8.1
    have x1 := x8.2
    have L7 := World.block_lt_of_cell? w7 _ K7.out.1
    have k8 := pt_keep (And.intro K7.out.1 (And.intro K7.out.2 L7)) b8
    have ka := k8.1
    have kb := k8.2
    have B8 := Lib.hid (B7.out.trans (b8.mono B7.out.size))
    have e1 := fun W => eq_in ⟨X, Y⟩ ⟨X, Y⟩ W
    have e2 := fun W => ne_pts ⟨X, Y⟩ ⟨X, Y⟩ W
    have e4 : eqP ⟨X, Y⟩ ⟨X, Y⟩ = true := by simp [eqP]
    have e3 := guard_arc
    simp only [e4] at e1 e2
    clear b8 s8 e4 x8 k8 L7
    go_wp2_with fail
    refine (known_ok _ (HT.out.below' B8.out)).mono ?_
    rintro e w9 ⟨rfl, hb⟩
    go_wp2_with fail
    go_ret
    exact ⟨rfl, B8.out.trans (hb.mono B8.out.size)⟩
end Go.Proofs.YtnnlbllkckakbaaDoor

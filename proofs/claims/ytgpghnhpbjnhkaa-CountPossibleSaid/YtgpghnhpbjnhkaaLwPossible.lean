/-
  CountPossible: the walk. Every argument.
-/
import Derived.Test.YtgpghnhpbjnhkaaCd3
namespace Go.Proofs.Ytgpghnhpbjnhkaa
open Go.RowKit
set_option linter.unusedVariables false

theorem upW_step (n m c a : Nat) : upW n m c (a + 1) = upW n m c a + wy n m c a := rfl
theorem po_full {n m c a k : Nat} (hm : m ≤ n) (hc : c ≤ n) (h1 : a ≤ c) (h2 : a ≤ m) (h3 : m + c ≤ n + a) : (poS n m c a 0 1 k).length = k := by
  unfold poS
  rw [List.length_map, List.filter_eq_self.2, List.length_range]
  intro i _
  have w0 := wy_pos (n := n + i) h1 h2 (by omega)
  have s := upW_step (n + i) m c a
  have l := upW_le (n := n + i) (m := m) (c := c) (by omega) (a + 1)
  unfold poB
  rw [Bool.and_eq_true, decide_eq_true_eq, decide_eq_true_eq, Nat.zero_mul, Nat.mul_one, Nat.mul_one]
  omega
theorem lv01 : lvB 0 1 = true := by decide +kernel
theorem po_all {m c a ln ld : Int} (h : poE m c a ln ld = 0) : poE m c a 0 1 = 0 ∧ (poL m c a ln ld).length ≤ (poL m c a 0 1).length ∧ ((poL m c a 0 1).length : Int) = max 0 (61 - m - c + a) ∧ (poL m c a 0 1).length ≤ 61 ∧ (0 ≤ m ∧ m ≤ 60) ∧ (0 ≤ c ∧ c ≤ 60) ∧ 0 ≤ a ∧ a ≤ 60 := by
  have h0 := h
  unfold poE at h
  split at h
  · rename_i hv
    split at h
    · rename_i hf
      obtain ⟨hm, hc, ha⟩ := allB3 hv.1
      have hf2 : a ≤ m ∧ a ≤ c := by unfold fitB at hf; simpa using hf
      have hE : poE m c a 0 1 = 0 := by unfold poE; rw [if_pos ⟨hv.1, lv01⟩, if_pos hf]
      have hl : (poL m c a 0 1).length = 61 - (m + c - a).toNat := by
        unfold poL
        rw [if_pos hE]
        exact po_full (by omega) (by omega) (by omega) (by omega) (by omega)
      refine ⟨hE, ?_, by rw [hl]; omega, by omega, hm, hc, ha⟩
      rw [hl]
      unfold poL
      rw [if_pos h0]
      exact poS_le _ _ _ _ _ _ _
    · cases h
  · cases h
theorem SameB_any (A A' : Option Addr) (c c' : Nat) (a : List Int) (hl : a.length ≤ 9223372036854775807) (w : World) (hr : Rd w w.heap.size A (ints a)) (hr' : Rd w w.heap.size A' (ints a)) :
    Calls Try.prog 33 #[.slice A a.length c, .slice A' a.length c'] w fun e w' => e = .returned (.bool true) ∧ Below w.heap.size w w' := by
  refine (SameInts_any A A' c c' a a w hr hr' hl hl).mono ?_
  rintro e w' ⟨rfl, q, rfl⟩
  exact ⟨by rw [decide_eq_true rfl], bdN (Below.refl _ _) q⟩
theorem poL_len (m c a ln ld : Int) : (poL m c a ln ld).length ≤ 61 := by
  unfold poL
  split
  · exact Nat.le_trans (poS_le _ _ _ _ _ _ _) (Nat.sub_le _ _)
  · exact Nat.zero_le _
set_option maxRecDepth 8000 in
set_option maxHeartbeats 4000000 in
theorem Possible_walk (b m c a ln ld : Int) (w : World) : Calls Try.prog 11 #[.agg (rc b m c a), .agg (rt ln ld)] w fun e w' => e = .returned (.bool true) ∧ Below w.heap.size w w' := by
  have HKN := Lib.hid known_any
  have H1 := Lib.hid (fun w => Possible_any m c a ln ld w)
  have H2 := Lib.hid (fun w => rPossible_any m c a ln ld w)
  have H3 := Lib.hid (fun w => Possible_any m c a 0 1 w)
  unfold PoPost at H1 H2 H3
  unfold rt at H3
  have hx61 := poL_len m c a ln ld
  have HSM := Lib.hid (fun A A' c1 c2 w h h' => SameB_any A A' c1 c2 (poL m c a ln ld) (by omega) w h h')
  by_cases hE : poE m c a ln ld = 0
  · obtain ⟨hE3, hle, hmx, h61, ⟨m0, m1⟩, ⟨c0, c1⟩, a0, a1⟩ := po_all hE
    rw [hE] at H1 H2
    rw [hE3] at H3
    clear hE hE3
    generalize poL m c a ln ld = X at *
    generalize poL m c a 0 1 = Y at *
    have e1 : decide ((X.length : Int) ≤ (Y.length : Int)) = true := by simp; omega
    have e1' : decide (X.length ≤ Y.length) = true := by simp; omega
    have e2 : ((Y.length : Int) == max 0 (61 - m - c + a)) = true := by simpa using hmx
    have HMX := Lib.hid hmx
    clear hmx hle
    have B0 := Lib.hid (Below.refl w.heap.size w)
    go_enter Try.func11, Try.ntmps11
    have B1 := Lib.hid (B0.out.alloc B0.out.size (.cells (rc b m c a) 28))
    have gx := heap_alloc_new w (.cells (rc b m c a) 28)
    have x0 := (blk_cell (j := 0) gx).trans (show _ = some (.int .i64 b) from rfl)
    have x1 := (blk_cell (j := 1) gx).trans (show _ = some (.int .i64 m) from rfl)
    have x2 := (blk_cell (j := 2) gx).trans (show _ = some (.int .i64 c) from rfl)
    have x3 := (blk_cell (j := 3) gx).trans (show _ = some (.int .i64 a) from rfl)
    have Gx := Lib.hid gx
    clear gx
    have B2 := Lib.hid (B1.out.alloc B1.out.size (.cells (rt ln ld) 31))
    have gx := blk_up (o := .cells (rt ln ld) 31) Gx.out
    have gy := heap_alloc_new (w.alloc (.cells (rc b m c a) 28)) (.cells (rt ln ld) 31)
    clear x0 x1 x2 x3
    have x0 := (blk_cell (j := 0) gx).trans (show _ = some (.int .i64 b) from rfl)
    have x1 := (blk_cell (j := 1) gx).trans (show _ = some (.int .i64 m) from rfl)
    have x2 := (blk_cell (j := 2) gx).trans (show _ = some (.int .i64 c) from rfl)
    have x3 := (blk_cell (j := 3) gx).trans (show _ = some (.int .i64 a) from rfl)
    have y0 := (blk_cell (j := 0) gy).trans (show _ = some (.int .i64 ln) from rfl)
    have y1 := (blk_cell (j := 1) gy).trans (show _ = some (.int .i64 ld) from rfl)
    have Gx := Lib.hid gx
    have Gy := Lib.hid gy
    clear gx gy
    have hsz : (w.alloc (.cells (rc b m c a) 28)).heap.size = w.heap.size + 1 := by simp
    rw [hsz] at y0 y1 Gy
    clear hsz
    go_wp2_with fail
    refine (H1.out ((w.alloc (.cells (rc b m c a) 28)).alloc (.cells (rt ln ld) 31))).mono ?_
    rintro e w3 ⟨A1, c1, rfl, hr, hb⟩
    have B3 := Lib.hid (B2.out.trans (hb.mono B2.out.size))
    have gx := (hb.block _ (lt_of_block Gx.out)).trans Gx.out
    have gy := (hb.block _ (lt_of_block Gy.out)).trans Gy.out
    have R1 := Lib.hid hr
    clear hr
    clear x0 x1 x2 x3 y0 y1
    have x0 := (blk_cell (j := 0) gx).trans (show _ = some (.int .i64 b) from rfl)
    have x1 := (blk_cell (j := 1) gx).trans (show _ = some (.int .i64 m) from rfl)
    have x2 := (blk_cell (j := 2) gx).trans (show _ = some (.int .i64 c) from rfl)
    have x3 := (blk_cell (j := 3) gx).trans (show _ = some (.int .i64 a) from rfl)
    have y0 := (blk_cell (j := 0) gy).trans (show _ = some (.int .i64 ln) from rfl)
    have y1 := (blk_cell (j := 1) gy).trans (show _ = some (.int .i64 ld) from rfl)
    have Gx := Lib.hid gx
    have Gy := Lib.hid gy
    clear hb gx gy
    go_wp2_with fail
    refine (H2.out w3).mono ?_
    rintro e w4 ⟨A2, c2, rfl, hr, hb⟩
    have B4 := Lib.hid (B3.out.trans (hb.mono B3.out.size))
    have gx := (hb.block _ (lt_of_block Gx.out)).trans Gx.out
    have gy := (hb.block _ (lt_of_block Gy.out)).trans Gy.out
    have R1 := Lib.hid (Rd.go R1.out hb)
    have R2 := Lib.hid hr
    clear hr
    clear x0 x1 x2 x3 y0 y1
    have x0 := (blk_cell (j := 0) gx).trans (show _ = some (.int .i64 b) from rfl)
    have x1 := (blk_cell (j := 1) gx).trans (show _ = some (.int .i64 m) from rfl)
    have x2 := (blk_cell (j := 2) gx).trans (show _ = some (.int .i64 c) from rfl)
    have x3 := (blk_cell (j := 3) gx).trans (show _ = some (.int .i64 a) from rfl)
    have y0 := (blk_cell (j := 0) gy).trans (show _ = some (.int .i64 ln) from rfl)
    have y1 := (blk_cell (j := 1) gy).trans (show _ = some (.int .i64 ld) from rfl)
    have Gx := Lib.hid gx
    have Gy := Lib.hid gy
    clear hb gx gy
    go_wp2_with fail
    refine (HSM.out A1 A2 c1 c2 w4 R1.out R2.out).mono ?_
    rintro e w5 ⟨rfl, hb⟩
    have B5 := Lib.hid (B4.out.trans (hb.mono B4.out.size))
    have gx := (hb.block _ (lt_of_block Gx.out)).trans Gx.out
    have gy := (hb.block _ (lt_of_block Gy.out)).trans Gy.out
    clear x0 x1 x2 x3 y0 y1
    have x0 := (blk_cell (j := 0) gx).trans (show _ = some (.int .i64 b) from rfl)
    have x1 := (blk_cell (j := 1) gx).trans (show _ = some (.int .i64 m) from rfl)
    have x2 := (blk_cell (j := 2) gx).trans (show _ = some (.int .i64 c) from rfl)
    have x3 := (blk_cell (j := 3) gx).trans (show _ = some (.int .i64 a) from rfl)
    have y0 := (blk_cell (j := 0) gy).trans (show _ = some (.int .i64 ln) from rfl)
    have y1 := (blk_cell (j := 1) gy).trans (show _ = some (.int .i64 ld) from rfl)
    have Gx := Lib.hid gx
    have Gy := Lib.hid gy
    clear hb gx gy
    go_wp2_with fail
    refine (H3.out w5).mono ?_
    rintro e w6 ⟨A3, c3, rfl, hr, hb⟩
    have B6 := Lib.hid (B5.out.trans (hb.mono B5.out.size))
    have gx := (hb.block _ (lt_of_block Gx.out)).trans Gx.out
    have gy := (hb.block _ (lt_of_block Gy.out)).trans Gy.out
    clear hr
    clear x0 x1 x2 x3 y0 y1
    have x0 := (blk_cell (j := 0) gx).trans (show _ = some (.int .i64 b) from rfl)
    have x1 := (blk_cell (j := 1) gx).trans (show _ = some (.int .i64 m) from rfl)
    have x2 := (blk_cell (j := 2) gx).trans (show _ = some (.int .i64 c) from rfl)
    have x3 := (blk_cell (j := 3) gx).trans (show _ = some (.int .i64 a) from rfl)
    have y0 := (blk_cell (j := 0) gy).trans (show _ = some (.int .i64 ln) from rfl)
    have y1 := (blk_cell (j := 1) gy).trans (show _ = some (.int .i64 ld) from rfl)
    have Gx := Lib.hid gx
    have Gy := Lib.hid gy
    clear hb gx gy
    go_wp2_with fail
    refine (HKN.out w6).mono ?_
    rintro e w7 ⟨rfl, hb⟩
    have B7 := Lib.hid (B6.out.trans (hb.mono B6.out.size))
    have gx := (hb.block _ (lt_of_block Gx.out)).trans Gx.out
    have gy := (hb.block _ (lt_of_block Gy.out)).trans Gy.out
    clear x0 x1 x2 x3 y0 y1
    have x0 := (blk_cell (j := 0) gx).trans (show _ = some (.int .i64 b) from rfl)
    have x1 := (blk_cell (j := 1) gx).trans (show _ = some (.int .i64 m) from rfl)
    have x2 := (blk_cell (j := 2) gx).trans (show _ = some (.int .i64 c) from rfl)
    have x3 := (blk_cell (j := 3) gx).trans (show _ = some (.int .i64 a) from rfl)
    have y0 := (blk_cell (j := 0) gy).trans (show _ = some (.int .i64 ln) from rfl)
    have y1 := (blk_cell (j := 1) gy).trans (show _ = some (.int .i64 ld) from rfl)
    have Gx := Lib.hid gx
    have Gy := Lib.hid gy
    clear hb gx gy
    go_wp2_with fail
    go_ret
    exact ⟨rfl, B7.out⟩
  · have e1 : (poE m c a ln ld != 0) = true := by simpa using hE
    clear hE
    generalize poL m c a ln ld = X at *
    generalize poE m c a ln ld = E at *
    generalize poL m c a 0 1 = Y at *
    generalize poE m c a 0 1 = F at *
    have B0 := Lib.hid (Below.refl w.heap.size w)
    go_enter Try.func11, Try.ntmps11
    have B1 := Lib.hid (B0.out.alloc B0.out.size (.cells (rc b m c a) 28))
    have gx := heap_alloc_new w (.cells (rc b m c a) 28)
    have x0 := (blk_cell (j := 0) gx).trans (show _ = some (.int .i64 b) from rfl)
    have x1 := (blk_cell (j := 1) gx).trans (show _ = some (.int .i64 m) from rfl)
    have x2 := (blk_cell (j := 2) gx).trans (show _ = some (.int .i64 c) from rfl)
    have x3 := (blk_cell (j := 3) gx).trans (show _ = some (.int .i64 a) from rfl)
    have Gx := Lib.hid gx
    clear gx
    have B2 := Lib.hid (B1.out.alloc B1.out.size (.cells (rt ln ld) 31))
    have gx := blk_up (o := .cells (rt ln ld) 31) Gx.out
    have gy := heap_alloc_new (w.alloc (.cells (rc b m c a) 28)) (.cells (rt ln ld) 31)
    clear x0 x1 x2 x3
    have x0 := (blk_cell (j := 0) gx).trans (show _ = some (.int .i64 b) from rfl)
    have x1 := (blk_cell (j := 1) gx).trans (show _ = some (.int .i64 m) from rfl)
    have x2 := (blk_cell (j := 2) gx).trans (show _ = some (.int .i64 c) from rfl)
    have x3 := (blk_cell (j := 3) gx).trans (show _ = some (.int .i64 a) from rfl)
    have y0 := (blk_cell (j := 0) gy).trans (show _ = some (.int .i64 ln) from rfl)
    have y1 := (blk_cell (j := 1) gy).trans (show _ = some (.int .i64 ld) from rfl)
    have Gx := Lib.hid gx
    have Gy := Lib.hid gy
    clear gx gy
    have hsz : (w.alloc (.cells (rc b m c a) 28)).heap.size = w.heap.size + 1 := by simp
    rw [hsz] at y0 y1 Gy
    clear hsz
    go_wp2_with fail
    refine (H1.out ((w.alloc (.cells (rc b m c a) 28)).alloc (.cells (rt ln ld) 31))).mono ?_
    rintro e w3 ⟨A1, c1, rfl, hr, hb⟩
    have B3 := Lib.hid (B2.out.trans (hb.mono B2.out.size))
    have gx := (hb.block _ (lt_of_block Gx.out)).trans Gx.out
    have gy := (hb.block _ (lt_of_block Gy.out)).trans Gy.out
    have R1 := Lib.hid hr
    clear hr
    clear x0 x1 x2 x3 y0 y1
    have x0 := (blk_cell (j := 0) gx).trans (show _ = some (.int .i64 b) from rfl)
    have x1 := (blk_cell (j := 1) gx).trans (show _ = some (.int .i64 m) from rfl)
    have x2 := (blk_cell (j := 2) gx).trans (show _ = some (.int .i64 c) from rfl)
    have x3 := (blk_cell (j := 3) gx).trans (show _ = some (.int .i64 a) from rfl)
    have y0 := (blk_cell (j := 0) gy).trans (show _ = some (.int .i64 ln) from rfl)
    have y1 := (blk_cell (j := 1) gy).trans (show _ = some (.int .i64 ld) from rfl)
    have Gx := Lib.hid gx
    have Gy := Lib.hid gy
    clear hb gx gy
    go_wp2_with fail
    refine (H2.out w3).mono ?_
    rintro e w4 ⟨A2, c2, rfl, hr, hb⟩
    have B4 := Lib.hid (B3.out.trans (hb.mono B3.out.size))
    have gx := (hb.block _ (lt_of_block Gx.out)).trans Gx.out
    have gy := (hb.block _ (lt_of_block Gy.out)).trans Gy.out
    have R1 := Lib.hid (Rd.go R1.out hb)
    have R2 := Lib.hid hr
    clear hr
    clear x0 x1 x2 x3 y0 y1
    have x0 := (blk_cell (j := 0) gx).trans (show _ = some (.int .i64 b) from rfl)
    have x1 := (blk_cell (j := 1) gx).trans (show _ = some (.int .i64 m) from rfl)
    have x2 := (blk_cell (j := 2) gx).trans (show _ = some (.int .i64 c) from rfl)
    have x3 := (blk_cell (j := 3) gx).trans (show _ = some (.int .i64 a) from rfl)
    have y0 := (blk_cell (j := 0) gy).trans (show _ = some (.int .i64 ln) from rfl)
    have y1 := (blk_cell (j := 1) gy).trans (show _ = some (.int .i64 ld) from rfl)
    have Gx := Lib.hid gx
    have Gy := Lib.hid gy
    clear hb gx gy
    go_wp2_with fail
    refine (HSM.out A1 A2 c1 c2 w4 R1.out R2.out).mono ?_
    rintro e w5 ⟨rfl, hb⟩
    have B5 := Lib.hid (B4.out.trans (hb.mono B4.out.size))
    have gx := (hb.block _ (lt_of_block Gx.out)).trans Gx.out
    have gy := (hb.block _ (lt_of_block Gy.out)).trans Gy.out
    clear x0 x1 x2 x3 y0 y1
    have x0 := (blk_cell (j := 0) gx).trans (show _ = some (.int .i64 b) from rfl)
    have x1 := (blk_cell (j := 1) gx).trans (show _ = some (.int .i64 m) from rfl)
    have x2 := (blk_cell (j := 2) gx).trans (show _ = some (.int .i64 c) from rfl)
    have x3 := (blk_cell (j := 3) gx).trans (show _ = some (.int .i64 a) from rfl)
    have y0 := (blk_cell (j := 0) gy).trans (show _ = some (.int .i64 ln) from rfl)
    have y1 := (blk_cell (j := 1) gy).trans (show _ = some (.int .i64 ld) from rfl)
    have Gx := Lib.hid gx
    have Gy := Lib.hid gy
    clear hb gx gy
    go_wp2_with fail
    refine (H3.out w5).mono ?_
    rintro e w6 ⟨A3, c3, rfl, hr, hb⟩
    have B6 := Lib.hid (B5.out.trans (hb.mono B5.out.size))
    have gx := (hb.block _ (lt_of_block Gx.out)).trans Gx.out
    have gy := (hb.block _ (lt_of_block Gy.out)).trans Gy.out
    clear hr
    clear x0 x1 x2 x3 y0 y1
    have x0 := (blk_cell (j := 0) gx).trans (show _ = some (.int .i64 b) from rfl)
    have x1 := (blk_cell (j := 1) gx).trans (show _ = some (.int .i64 m) from rfl)
    have x2 := (blk_cell (j := 2) gx).trans (show _ = some (.int .i64 c) from rfl)
    have x3 := (blk_cell (j := 3) gx).trans (show _ = some (.int .i64 a) from rfl)
    have y0 := (blk_cell (j := 0) gy).trans (show _ = some (.int .i64 ln) from rfl)
    have y1 := (blk_cell (j := 1) gy).trans (show _ = some (.int .i64 ld) from rfl)
    have Gx := Lib.hid gx
    have Gy := Lib.hid gy
    clear hb gx gy
    go_wp2_with fail
    refine (HKN.out w6).mono ?_
    rintro e w7 ⟨rfl, hb⟩
    have B7 := Lib.hid (B6.out.trans (hb.mono B6.out.size))
    have gx := (hb.block _ (lt_of_block Gx.out)).trans Gx.out
    have gy := (hb.block _ (lt_of_block Gy.out)).trans Gy.out
    clear x0 x1 x2 x3 y0 y1
    have x0 := (blk_cell (j := 0) gx).trans (show _ = some (.int .i64 b) from rfl)
    have x1 := (blk_cell (j := 1) gx).trans (show _ = some (.int .i64 m) from rfl)
    have x2 := (blk_cell (j := 2) gx).trans (show _ = some (.int .i64 c) from rfl)
    have x3 := (blk_cell (j := 3) gx).trans (show _ = some (.int .i64 a) from rfl)
    have y0 := (blk_cell (j := 0) gy).trans (show _ = some (.int .i64 ln) from rfl)
    have y1 := (blk_cell (j := 1) gy).trans (show _ = some (.int .i64 ld) from rfl)
    have Gx := Lib.hid gx
    have Gy := Lib.hid gy
    clear hb gx gy
    go_wp2_with fail
    go_ret
    exact ⟨rfl, B7.out⟩
end Go.Proofs.Ytgpghnhpbjnhkaa

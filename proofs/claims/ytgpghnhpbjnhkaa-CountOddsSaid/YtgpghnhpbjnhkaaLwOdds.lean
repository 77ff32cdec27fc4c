/-
  CountOdds: the walk. Every argument.
-/
import Derived.Test.YtgpghnhpbjnhkaaCc6
import Derived.Test.YtgpghnhpbjnhkaaCc8
namespace Go.Proofs.Ytgpghnhpbjnhkaa
open Go.RowKit
set_option linter.unusedVariables false

theorem od_cross {b m c a : Int} (h : odE b m c a = 0) : ((odV b m c a).1 : Int) * (b * (b - m - c + a)) = (b - m) * (b - c) * ((odV b m c a).2 : Int) ∧ 0 < b * (b - m - c + a) ∧ b * (b - m - c + a) ≤ 3600 ∧ 0 < (b - m) * (b - c) ∧ (b - m) * (b - c) ≤ 3600 ∧ ((odV b m c a).1 : Int) ≤ 3600 ∧ ((odV b m c a).2 : Int) ≤ 3600 := by
  obtain ⟨⟨hb, hm, hc, ha⟩, h1, h2, h3, h4, h5, _⟩ := odE_ok h
  obtain ⟨⟨n1, n2⟩, n3, n4⟩ := od_bounds hb hm.1 hc.1 h1 h2 h5 h4 h3
  have hV : odV b m c a = fr ((b - m) * (b - c)).toNat (b * (b - m - c + a)).toNat := if_pos h
  have hl := fr_le ((b - m) * (b - c)).toNat (b * (b - m - c + a)).toNat
  have hx := fr_cross (n := ((b - m) * (b - c)).toNat) (d := (b * (b - m - c + a)).toNat) (by omega)
  rw [← hV] at hl hx
  refine ⟨?_, n3, n4, n1, n2, by omega, by omega⟩
  have e := congrArg (fun z : Nat => (z : Int)) hx
  simp only [Int.natCast_mul] at e
  rw [show ((((b - m) * (b - c)).toNat : Nat) : Int) = (b - m) * (b - c) by omega, show (((b * (b - m - c + a)).toNat : Nat) : Int) = b * (b - m - c + a) by omega] at e
  exact e
theorem od_bits {b m c a : Int} (h : odE b m c a = 0) : (0 ≤ b ∧ b ≤ 60) ∧ (0 ≤ m ∧ m ≤ 60) ∧ (0 ≤ c ∧ c ≤ 60) ∧ 0 ≤ a ∧ a ≤ 60 := (odE_ok h).1
set_option maxRecDepth 8000 in
set_option maxHeartbeats 4000000 in
theorem Odds_walk (b m c a : Int) (w : World) : Calls Try.prog 9 #[.agg (rc b m c a)] w fun e w' => e = .returned (.bool true) ∧ Below w.heap.size w w' := by
  have HKN := Lib.hid known_any
  have H1 := Lib.hid (fun w => Odds_any b m c a w)
  have H2 := Lib.hid (fun w => rOdds_any b m c a w)
  by_cases hE : odE b m c a = 0
  · rw [hE] at H1 H2
    obtain ⟨k1, k2, k3, k4, k5, k6, k7⟩ := od_cross hE
    obtain ⟨⟨b0, b1⟩, ⟨m0, m1⟩, ⟨c0, c1⟩, a0, a1⟩ := od_bits hE
    clear hE
    generalize odV b m c a = p at *
    obtain ⟨p1, p2⟩ := p
    simp only at k1 k6 k7
    unfold ratV at H1 H2
    have pi := fun W => rat_in (p1 : Int) (p2 : Int) W
    have pe := fun W => rat_eq (p1 : Int) (p2 : Int) W
    have pn := fun W => rat_ne (p1 : Int) (p2 : Int) W
    have hgr := guard_rat
    have l1 : (p1 : Int) * (b * (b - m - c + a)) ≤ 3600 * 3600 := Int.mul_le_mul k6 k3 (by omega) (by omega)
    have l2 : 0 ≤ (p1 : Int) * (b * (b - m - c + a)) := Int.mul_nonneg (by omega) (by omega)
    have l3 : (b - m) * (b - c) * (p2 : Int) ≤ 3600 * 3600 := Int.mul_le_mul k5 k7 (by omega) (by omega)
    have l4 : 0 ≤ (b - m) * (b - c) * (p2 : Int) := Int.mul_nonneg (by omega) (by omega)
    have e1 : decide (0 < b * (b - m - c + a)) = true := decide_eq_true k2
    have e2 : ((p1 : Int) * (b * (b - m - c + a)) == (b - m) * (b - c) * (p2 : Int)) = true := by simpa using k1
    have K1 := Lib.hid k1
    clear k1
    have B0 := Lib.hid (Below.refl w.heap.size w)
    go_enter Try.func9, Try.ntmps9
    have B1 := Lib.hid (B0.out.alloc B0.out.size (.cells (rc b m c a) 28))
    have gx := heap_alloc_new w (.cells (rc b m c a) 28)
    have x0 := (blk_cell (j := 0) gx).trans (show _ = some (.int .i64 b) from rfl)
    have x1 := (blk_cell (j := 1) gx).trans (show _ = some (.int .i64 m) from rfl)
    have x2 := (blk_cell (j := 2) gx).trans (show _ = some (.int .i64 c) from rfl)
    have x3 := (blk_cell (j := 3) gx).trans (show _ = some (.int .i64 a) from rfl)
    have Gx := Lib.hid gx
    clear gx
    go_wp2_with fail
    refine (H1.out (w.alloc (.cells (rc b m c a) 28))).mono ?_
    rintro e w2 ⟨rfl, hb⟩
    have B2 := Lib.hid (B1.out.trans (hb.mono B1.out.size))
    have gx := (hb.block _ (lt_of_block Gx.out)).trans Gx.out
    clear x0 x1 x2 x3
    have x0 := (blk_cell (j := 0) gx).trans (show _ = some (.int .i64 b) from rfl)
    have x1 := (blk_cell (j := 1) gx).trans (show _ = some (.int .i64 m) from rfl)
    have x2 := (blk_cell (j := 2) gx).trans (show _ = some (.int .i64 c) from rfl)
    have x3 := (blk_cell (j := 3) gx).trans (show _ = some (.int .i64 a) from rfl)
    have Gx := Lib.hid gx
    clear hb gx
    have B3 := Lib.hid (B2.out.alloc B2.out.size (.cells #[.int .i64 (p1 : Int), .int .i64 (p2 : Int)] 31))
    have gx := blk_up (o := .cells #[.int .i64 (p1 : Int), .int .i64 (p2 : Int)] 31) Gx.out
    have gr := heap_alloc_new w2 (.cells #[.int .i64 (p1 : Int), .int .i64 (p2 : Int)] 31)
    clear x0 x1 x2 x3
    have x0 := (blk_cell (j := 0) gx).trans (show _ = some (.int .i64 b) from rfl)
    have x1 := (blk_cell (j := 1) gx).trans (show _ = some (.int .i64 m) from rfl)
    have x2 := (blk_cell (j := 2) gx).trans (show _ = some (.int .i64 c) from rfl)
    have x3 := (blk_cell (j := 3) gx).trans (show _ = some (.int .i64 a) from rfl)
    have r0 := (blk_cell (j := 0) gr).trans (show _ = some (.int .i64 (p1 : Int)) from rfl)
    have r1 := (blk_cell (j := 1) gr).trans (show _ = some (.int .i64 (p2 : Int)) from rfl)
    have Gx := Lib.hid gx
    have Gr := Lib.hid gr
    clear gx gr
    go_wp2_with fail
    refine (H2.out (w2.alloc (.cells #[.int .i64 (p1 : Int), .int .i64 (p2 : Int)] 31))).mono ?_
    rintro e w4 ⟨rfl, hb⟩
    have B4 := Lib.hid (B3.out.trans (hb.mono B3.out.size))
    have gx := (hb.block _ (lt_of_block Gx.out)).trans Gx.out
    have gr := (hb.block _ (lt_of_block Gr.out)).trans Gr.out
    clear x0 x1 x2 x3 r0 r1
    have x0 := (blk_cell (j := 0) gx).trans (show _ = some (.int .i64 b) from rfl)
    have x1 := (blk_cell (j := 1) gx).trans (show _ = some (.int .i64 m) from rfl)
    have x2 := (blk_cell (j := 2) gx).trans (show _ = some (.int .i64 c) from rfl)
    have x3 := (blk_cell (j := 3) gx).trans (show _ = some (.int .i64 a) from rfl)
    have r0 := (blk_cell (j := 0) gr).trans (show _ = some (.int .i64 (p1 : Int)) from rfl)
    have r1 := (blk_cell (j := 1) gr).trans (show _ = some (.int .i64 (p2 : Int)) from rfl)
    have Gx := Lib.hid gx
    have Gr := Lib.hid gr
    clear hb gx gr
    have B5 := Lib.hid (B4.out.alloc B4.out.size (.cells #[.int .i64 (p1 : Int), .int .i64 (p2 : Int)] 31))
    have gx := blk_up (o := .cells #[.int .i64 (p1 : Int), .int .i64 (p2 : Int)] 31) Gx.out
    have gr := blk_up (o := .cells #[.int .i64 (p1 : Int), .int .i64 (p2 : Int)] 31) Gr.out
    have gs := heap_alloc_new w4 (.cells #[.int .i64 (p1 : Int), .int .i64 (p2 : Int)] 31)
    clear x0 x1 x2 x3 r0 r1
    have x0 := (blk_cell (j := 0) gx).trans (show _ = some (.int .i64 b) from rfl)
    have x1 := (blk_cell (j := 1) gx).trans (show _ = some (.int .i64 m) from rfl)
    have x2 := (blk_cell (j := 2) gx).trans (show _ = some (.int .i64 c) from rfl)
    have x3 := (blk_cell (j := 3) gx).trans (show _ = some (.int .i64 a) from rfl)
    have r0 := (blk_cell (j := 0) gr).trans (show _ = some (.int .i64 (p1 : Int)) from rfl)
    have r1 := (blk_cell (j := 1) gr).trans (show _ = some (.int .i64 (p2 : Int)) from rfl)
    have s0 := (blk_cell (j := 0) gs).trans (show _ = some (.int .i64 (p1 : Int)) from rfl)
    have s1 := (blk_cell (j := 1) gs).trans (show _ = some (.int .i64 (p2 : Int)) from rfl)
    have Gx := Lib.hid gx
    have Gr := Lib.hid gr
    have Gs := Lib.hid gs
    clear gx gr gs
    go_wp2_with fail
    refine (HKN.out (w4.alloc (.cells #[.int .i64 (p1 : Int), .int .i64 (p2 : Int)] 31))).mono ?_
    rintro e w6 ⟨rfl, hb⟩
    have B6 := Lib.hid (B5.out.trans (hb.mono B5.out.size))
    have gx := (hb.block _ (lt_of_block Gx.out)).trans Gx.out
    have gr := (hb.block _ (lt_of_block Gr.out)).trans Gr.out
    have gs := (hb.block _ (lt_of_block Gs.out)).trans Gs.out
    clear x0 x1 x2 x3 r0 r1 s0 s1
    have x0 := (blk_cell (j := 0) gx).trans (show _ = some (.int .i64 b) from rfl)
    have x1 := (blk_cell (j := 1) gx).trans (show _ = some (.int .i64 m) from rfl)
    have x2 := (blk_cell (j := 2) gx).trans (show _ = some (.int .i64 c) from rfl)
    have x3 := (blk_cell (j := 3) gx).trans (show _ = some (.int .i64 a) from rfl)
    have r0 := (blk_cell (j := 0) gr).trans (show _ = some (.int .i64 (p1 : Int)) from rfl)
    have r1 := (blk_cell (j := 1) gr).trans (show _ = some (.int .i64 (p2 : Int)) from rfl)
    have s0 := (blk_cell (j := 0) gs).trans (show _ = some (.int .i64 (p1 : Int)) from rfl)
    have s1 := (blk_cell (j := 1) gs).trans (show _ = some (.int .i64 (p2 : Int)) from rfl)
    have Gx := Lib.hid gx
    have Gr := Lib.hid gr
    have Gs := Lib.hid gs
    clear hb gx gr gs
    go_wp2_with fail
    go_ret
    exact ⟨rfl, B6.out⟩
  · have e1 : (odE b m c a != 0) = true := by simpa using hE
    clear hE
    generalize odV b m c a = p at *
    generalize odE b m c a = E at *
    obtain ⟨p1, p2⟩ := p
    unfold ratV at H1 H2
    have pi := fun W => rat_in (p1 : Int) (p2 : Int) W
    have pe := fun W => rat_eq (p1 : Int) (p2 : Int) W
    have pn := fun W => rat_ne (p1 : Int) (p2 : Int) W
    have hgr := guard_rat
    have B0 := Lib.hid (Below.refl w.heap.size w)
    go_enter Try.func9, Try.ntmps9
    have B1 := Lib.hid (B0.out.alloc B0.out.size (.cells (rc b m c a) 28))
    have gx := heap_alloc_new w (.cells (rc b m c a) 28)
    have x0 := (blk_cell (j := 0) gx).trans (show _ = some (.int .i64 b) from rfl)
    have x1 := (blk_cell (j := 1) gx).trans (show _ = some (.int .i64 m) from rfl)
    have x2 := (blk_cell (j := 2) gx).trans (show _ = some (.int .i64 c) from rfl)
    have x3 := (blk_cell (j := 3) gx).trans (show _ = some (.int .i64 a) from rfl)
    have Gx := Lib.hid gx
    clear gx
    go_wp2_with fail
    refine (H1.out (w.alloc (.cells (rc b m c a) 28))).mono ?_
    rintro e w2 ⟨rfl, hb⟩
    have B2 := Lib.hid (B1.out.trans (hb.mono B1.out.size))
    have gx := (hb.block _ (lt_of_block Gx.out)).trans Gx.out
    clear x0 x1 x2 x3
    have x0 := (blk_cell (j := 0) gx).trans (show _ = some (.int .i64 b) from rfl)
    have x1 := (blk_cell (j := 1) gx).trans (show _ = some (.int .i64 m) from rfl)
    have x2 := (blk_cell (j := 2) gx).trans (show _ = some (.int .i64 c) from rfl)
    have x3 := (blk_cell (j := 3) gx).trans (show _ = some (.int .i64 a) from rfl)
    have Gx := Lib.hid gx
    clear hb gx
    have B3 := Lib.hid (B2.out.alloc B2.out.size (.cells #[.int .i64 (p1 : Int), .int .i64 (p2 : Int)] 31))
    have gx := blk_up (o := .cells #[.int .i64 (p1 : Int), .int .i64 (p2 : Int)] 31) Gx.out
    have gr := heap_alloc_new w2 (.cells #[.int .i64 (p1 : Int), .int .i64 (p2 : Int)] 31)
    clear x0 x1 x2 x3
    have x0 := (blk_cell (j := 0) gx).trans (show _ = some (.int .i64 b) from rfl)
    have x1 := (blk_cell (j := 1) gx).trans (show _ = some (.int .i64 m) from rfl)
    have x2 := (blk_cell (j := 2) gx).trans (show _ = some (.int .i64 c) from rfl)
    have x3 := (blk_cell (j := 3) gx).trans (show _ = some (.int .i64 a) from rfl)
    have r0 := (blk_cell (j := 0) gr).trans (show _ = some (.int .i64 (p1 : Int)) from rfl)
    have r1 := (blk_cell (j := 1) gr).trans (show _ = some (.int .i64 (p2 : Int)) from rfl)
    have Gx := Lib.hid gx
    have Gr := Lib.hid gr
    clear gx gr
    go_wp2_with fail
    refine (H2.out (w2.alloc (.cells #[.int .i64 (p1 : Int), .int .i64 (p2 : Int)] 31))).mono ?_
    rintro e w4 ⟨rfl, hb⟩
    have B4 := Lib.hid (B3.out.trans (hb.mono B3.out.size))
    have gx := (hb.block _ (lt_of_block Gx.out)).trans Gx.out
    have gr := (hb.block _ (lt_of_block Gr.out)).trans Gr.out
    clear x0 x1 x2 x3 r0 r1
    have x0 := (blk_cell (j := 0) gx).trans (show _ = some (.int .i64 b) from rfl)
    have x1 := (blk_cell (j := 1) gx).trans (show _ = some (.int .i64 m) from rfl)
    have x2 := (blk_cell (j := 2) gx).trans (show _ = some (.int .i64 c) from rfl)
    have x3 := (blk_cell (j := 3) gx).trans (show _ = some (.int .i64 a) from rfl)
    have r0 := (blk_cell (j := 0) gr).trans (show _ = some (.int .i64 (p1 : Int)) from rfl)
    have r1 := (blk_cell (j := 1) gr).trans (show _ = some (.int .i64 (p2 : Int)) from rfl)
    have Gx := Lib.hid gx
    have Gr := Lib.hid gr
    clear hb gx gr
    have B5 := Lib.hid (B4.out.alloc B4.out.size (.cells #[.int .i64 (p1 : Int), .int .i64 (p2 : Int)] 31))
    have gx := blk_up (o := .cells #[.int .i64 (p1 : Int), .int .i64 (p2 : Int)] 31) Gx.out
    have gr := blk_up (o := .cells #[.int .i64 (p1 : Int), .int .i64 (p2 : Int)] 31) Gr.out
    have gs := heap_alloc_new w4 (.cells #[.int .i64 (p1 : Int), .int .i64 (p2 : Int)] 31)
    clear x0 x1 x2 x3 r0 r1
    have x0 := (blk_cell (j := 0) gx).trans (show _ = some (.int .i64 b) from rfl)
    have x1 := (blk_cell (j := 1) gx).trans (show _ = some (.int .i64 m) from rfl)
    have x2 := (blk_cell (j := 2) gx).trans (show _ = some (.int .i64 c) from rfl)
    have x3 := (blk_cell (j := 3) gx).trans (show _ = some (.int .i64 a) from rfl)
    have r0 := (blk_cell (j := 0) gr).trans (show _ = some (.int .i64 (p1 : Int)) from rfl)
    have r1 := (blk_cell (j := 1) gr).trans (show _ = some (.int .i64 (p2 : Int)) from rfl)
    have s0 := (blk_cell (j := 0) gs).trans (show _ = some (.int .i64 (p1 : Int)) from rfl)
    have s1 := (blk_cell (j := 1) gs).trans (show _ = some (.int .i64 (p2 : Int)) from rfl)
    have Gx := Lib.hid gx
    have Gr := Lib.hid gr
    have Gs := Lib.hid gs
    clear gx gr gs
    go_wp2_with fail
    refine (HKN.out (w4.alloc (.cells #[.int .i64 (p1 : Int), .int .i64 (p2 : Int)] 31))).mono ?_
    rintro e w6 ⟨rfl, hb⟩
    have B6 := Lib.hid (B5.out.trans (hb.mono B5.out.size))
    have gx := (hb.block _ (lt_of_block Gx.out)).trans Gx.out
    have gr := (hb.block _ (lt_of_block Gr.out)).trans Gr.out
    have gs := (hb.block _ (lt_of_block Gs.out)).trans Gs.out
    clear x0 x1 x2 x3 r0 r1 s0 s1
    have x0 := (blk_cell (j := 0) gx).trans (show _ = some (.int .i64 b) from rfl)
    have x1 := (blk_cell (j := 1) gx).trans (show _ = some (.int .i64 m) from rfl)
    have x2 := (blk_cell (j := 2) gx).trans (show _ = some (.int .i64 c) from rfl)
    have x3 := (blk_cell (j := 3) gx).trans (show _ = some (.int .i64 a) from rfl)
    have r0 := (blk_cell (j := 0) gr).trans (show _ = some (.int .i64 (p1 : Int)) from rfl)
    have r1 := (blk_cell (j := 1) gr).trans (show _ = some (.int .i64 (p2 : Int)) from rfl)
    have s0 := (blk_cell (j := 0) gs).trans (show _ = some (.int .i64 (p1 : Int)) from rfl)
    have s1 := (blk_cell (j := 1) gs).trans (show _ = some (.int .i64 (p2 : Int)) from rfl)
    have Gx := Lib.hid gx
    have Gr := Lib.hid gr
    have Gs := Lib.hid gs
    clear hb gx gr gs
    go_wp2_with fail
    go_ret
    exact ⟨rfl, B6.out⟩
end Go.Proofs.Ytgpghnhpbjnhkaa

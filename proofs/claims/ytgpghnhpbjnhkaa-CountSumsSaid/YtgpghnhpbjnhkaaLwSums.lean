/-
  CountSums: the walk. Every argument.
-/
import Derived.Test.YtgpghnhpbjnhkaaCc6
namespace Go.Proofs.Ytgpghnhpbjnhkaa
open Go.RowKit
set_option linter.unusedVariables false

theorem ch_ex {b m c a : Nat} (hm : m ≤ b) (hc : c ≤ b) : wy b m c a * ch b m = wy b c m a * ch b c := by
  unfold wy
  by_cases h1 : a ≤ c
  · by_cases h2 : a ≤ m
    · rw [if_pos h1, if_pos h2]
      by_cases h3 : m + c ≤ b + a
      · obtain ⟨q, rfl⟩ := Nat.exists_eq_add_of_le h2
        obtain ⟨r, rfl⟩ := Nat.exists_eq_add_of_le h1
        obtain ⟨s, rfl⟩ : ∃ s, b = a + q + (r + s) := ⟨b - a - q - r, by omega⟩
        have h := ch_swap a q r s
        rw [show a + q + (r + s) - (a + q) = r + s by omega, show a + r - a = r by omega, show a + q - a = q by omega, show a + q + (r + s) - (a + r) = q + s by omega]
        rw [show a + r + (q + s) = a + q + (r + s) by omega] at h
        exact h
      · rw [ch_gt (show b - m < c - a by omega), ch_gt (show b - c < m - a by omega)]
        simp
    · rw [if_pos h1, if_neg h2, ch_gt (show m < a by omega)]
      simp
  · rw [if_neg h1, ch_gt (show c < a by omega)]
    simp
theorem chE_ex (b m c a : Int) : chE b m c a = chE b c m a := by
  have h1 : (b < m ∨ b < c) ↔ (b < c ∨ b < m) := Or.comm
  have h2 : allB [b, m, c, a] = allB [b, c, m, a] := by
    rw [Bool.eq_iff_iff, allB4_iff, allB4_iff]
    constructor <;> (rintro ⟨x, y, z, u⟩; exact ⟨x, z, y, u⟩)
  unfold chE
  rw [h2]
  simp only [h1]
theorem chV_ex (b m c a : Int) : chV b m c a = chV b c m a := by
  unfold chV
  rw [← chE_ex b m c a]
  by_cases h : chE b m c a = 0
  · rw [if_pos h, if_pos h]
    obtain ⟨h1, h2, h3⟩ := chE_fit h
    unfold chN
    rw [wN_fit (by omega) (by omega), wN_fit (by omega) (by omega)]
    exact fr_eq (ch_pos (by omega)) (ch_pos (by omega)) (ch_ex (by omega) (by omega))
  · rw [if_neg h, if_neg h]
set_option maxRecDepth 8000 in
set_option maxHeartbeats 4000000 in
theorem Sums_walk (b m c a : Int) (w : World) : Calls Try.prog 5 #[.agg (rc b m c a)] w fun e w' => e = .returned (.bool true) ∧ Below w.heap.size w w' := by
  have HKN := Lib.hid known_any
  have H1 := Lib.hid (fun w => Binomial_any b c w)
  cases hv : allB [b, c]
  · have HE : binE b c = 1 := by unfold binE; rw [hv]; rfl
    rw [HE] at H1
    clear hv HE
    generalize binV b c = x at *
    have B0 := Lib.hid (Below.refl w.heap.size w)
    go_enter Try.func5, Try.ntmps5
    have B1 := Lib.hid (B0.out.alloc B0.out.size (.cells (rc b m c a) 28))
    have gx := heap_alloc_new w (.cells (rc b m c a) 28)
    have x0 := (blk_cell (j := 0) gx).trans (show _ = some (.int .i64 b) from rfl)
    have x1 := (blk_cell (j := 1) gx).trans (show _ = some (.int .i64 m) from rfl)
    have x2 := (blk_cell (j := 2) gx).trans (show _ = some (.int .i64 c) from rfl)
    have x3 := (blk_cell (j := 3) gx).trans (show _ = some (.int .i64 a) from rfl)
    have Gx := Lib.hid gx
    clear gx
    go_wp2_with fail
    refine (H1.out (w.alloc (.cells (rc b m c a) 28))).mono ?_
    rintro e w2 ⟨rfl, hb⟩
    have B2 := Lib.hid (B1.out.trans (hb.mono B1.out.size))
    have gx := (hb.block _ (lt_of_block Gx.out)).trans Gx.out
    clear x0 x1 x2 x3
    have x0 := (blk_cell (j := 0) gx).trans (show _ = some (.int .i64 b) from rfl)
    have x1 := (blk_cell (j := 1) gx).trans (show _ = some (.int .i64 m) from rfl)
    have x2 := (blk_cell (j := 2) gx).trans (show _ = some (.int .i64 c) from rfl)
    have x3 := (blk_cell (j := 3) gx).trans (show _ = some (.int .i64 a) from rfl)
    have Gx := Lib.hid gx
    clear hb gx
    go_wp2_with fail
    refine (HKN.out w2).mono ?_
    rintro e w3 ⟨rfl, hb⟩
    have B3 := Lib.hid (B2.out.trans (hb.mono B2.out.size))
    have gx := (hb.block _ (lt_of_block Gx.out)).trans Gx.out
    clear x0 x1 x2 x3
    have x0 := (blk_cell (j := 0) gx).trans (show _ = some (.int .i64 b) from rfl)
    have x1 := (blk_cell (j := 1) gx).trans (show _ = some (.int .i64 m) from rfl)
    have x2 := (blk_cell (j := 2) gx).trans (show _ = some (.int .i64 c) from rfl)
    have x3 := (blk_cell (j := 3) gx).trans (show _ = some (.int .i64 a) from rfl)
    have Gx := Lib.hid gx
    clear hb gx
    go_wp2_with fail
    go_ret
    exact ⟨rfl, B3.out⟩
  · have HE : binE b c = 0 := by unfold binE; rw [hv]; rfl
    rw [HE] at H1
    obtain ⟨⟨b0, b1⟩, c0, c1⟩ := allB2 hv
    cases e1 : decide (m < 0)
    · cases e2 : decide (b < m)
      · cases e3 : decide (b < c)
        · have k1 := of_decide_eq_false e1
          have k2 := of_decide_eq_false e2
          have k3 := of_decide_eq_false e3
          have hX : binV b c = ch b.toNat c.toNat := by unfold binV; rw [if_pos hv, ← bI_nat, show ((b.toNat : Nat) : Int) = b by omega, show ((c.toNat : Nat) : Int) = c by omega]
          have hall := upW_all (n := b.toNat) (m := m.toNat) (c := c.toNat) (by omega)
          rw [← sumTo_up (n := b.toNat) (m := m.toNat) (c := c.toNat) (by omega) (by omega), ← hX] at hall
          have HALL := Lib.hid hall
          have HS := Lib.hid (fun j => Nat.le_trans (sumTo_le (n := b.toNat) (m := m.toNat) (c := c.toNat) (k := j) (by omega) (by omega)) (ch_small (by omega) c.toNat))
          obtain ⟨K, hK⟩ : ∃ K, K = c.toNat + 1 := ⟨_, rfl⟩
          rw [← hK] at HALL
          have HKC := Lib.hid (show (K : Int) = c + 1 by omega)
          have HWy := Lib.hid (fun (i : Nat) (hi : i < K) w => Ways_any b m c i w)
          have HWE := Lib.hid (fun (i : Nat) (hi : i < K) => show wysE b m c i = 0 from if_pos (allB4_iff.2 ⟨⟨b0, b1⟩, ⟨by omega, by omega⟩, ⟨c0, c1⟩, by omega, by omega⟩))
          have HWV := Lib.hid (fun (i : Nat) (hi : i < K) => show wysV b m c i = wN b.toNat m.toNat c.toNat i from by unfold wysV; rw [if_pos (allB4_iff.2 ⟨⟨b0, b1⟩, ⟨by omega, by omega⟩, ⟨c0, c1⟩, by omega, by omega⟩)]; rfl)
          have H2 := Lib.hid (fun w => Chance_any b m c a w)
          have H3 := Lib.hid (fun w => Chance_any b c m a w)
          rw [← chE_ex b m c a, ← chV_ex b m c a] at H3
          have hk61 : K ≤ 61 := by omega
          clear hv HE hX hall hK k1 k2 k3
          generalize binV b c = x at *
          generalize chE b m c a = F at *
          generalize chV b m c a = p at *
          obtain ⟨p1, p2⟩ := p
          unfold ratV at H2 H3
          generalize hww : wN b.toNat m.toNat c.toNat = W at *
          clear hww
          have pi := fun W => rat_in (p1 : Int) (p2 : Int) W
          have pe := fun W => rat_eq (p1 : Int) (p2 : Int) W
          have pn := fun W => rat_ne (p1 : Int) (p2 : Int) W
          have hgr := guard_rat
          have B0 := Lib.hid (Below.refl w.heap.size w)
          go_enter Try.func5, Try.ntmps5
          have B1 := Lib.hid (B0.out.alloc B0.out.size (.cells (rc b m c a) 28))
          have gx := heap_alloc_new w (.cells (rc b m c a) 28)
          have x0 := (blk_cell (j := 0) gx).trans (show _ = some (.int .i64 b) from rfl)
          have x1 := (blk_cell (j := 1) gx).trans (show _ = some (.int .i64 m) from rfl)
          have x2 := (blk_cell (j := 2) gx).trans (show _ = some (.int .i64 c) from rfl)
          have x3 := (blk_cell (j := 3) gx).trans (show _ = some (.int .i64 a) from rfl)
          have Gx := Lib.hid gx
          clear gx
          go_wp2_with fail
          refine (H1.out (w.alloc (.cells (rc b m c a) 28))).mono ?_
          rintro e w2 ⟨rfl, hb⟩
          have B2 := Lib.hid (B1.out.trans (hb.mono B1.out.size))
          have gx := (hb.block _ (lt_of_block Gx.out)).trans Gx.out
          clear x0 x1 x2 x3
          have x0 := (blk_cell (j := 0) gx).trans (show _ = some (.int .i64 b) from rfl)
          have x1 := (blk_cell (j := 1) gx).trans (show _ = some (.int .i64 m) from rfl)
          have x2 := (blk_cell (j := 2) gx).trans (show _ = some (.int .i64 c) from rfl)
          have x3 := (blk_cell (j := 3) gx).trans (show _ = some (.int .i64 a) from rfl)
          have Gx := Lib.hid gx
          clear hb gx
          go_wp2_with fail
          clear e1 e2 e3
          have BW := Lib.hid (Below.refl w2.heap.size w2)
          clear x0 x1 x2 x3
          go_loopw [5, 6] (fun u v wr => ∃ k : Nat, k ≤ K ∧ u = .int .i64 (sumTo W k : Nat) ∧ v = .int .i64 k ∧ Below w2.heap.size w2 wr) (fun _ v _ => K - (intOf v).toNat)
          case atStart => exact ⟨0, by omega, rfl, rfl, BW.out⟩
          case round =>
            obtain ⟨k, hk, rfl, rfl, hb⟩ := hrel
            have gx := (hb.block _ (lt_of_blk Gx.out)).trans Gx.out
            have x0 := (blk_cell (j := 0) gx).trans (show _ = some (.int .i64 b) from rfl)
            have x1 := (blk_cell (j := 1) gx).trans (show _ = some (.int .i64 m) from rfl)
            have x2 := (blk_cell (j := 2) gx).trans (show _ = some (.int .i64 c) from rfl)
            have x3 := (blk_cell (j := 3) gx).trans (show _ = some (.int .i64 a) from rfl)
            have Gx := Lib.hid gx
            have BL := Lib.hid (B2.out.trans (hb.mono B2.out.size))
            have BWr := Lib.hid hb
            clear gx hb
            by_cases hlt : k < K
            · have e1 : decide ((k : Int) ≤ c) = true := by simp; have := HKC.out; omega
              have HWk := Lib.hid (fun w => HWy.out k hlt w)
              rw [HWE.out k hlt, HWV.out k hlt] at HWk
              have s1 := HS.out k
              have s2 := HS.out (k + 1)
              have HN := Lib.hid (show sumTo W (k + 1) = sumTo W k + W k from rfl)
              rw [HN.out] at s2
              generalize sumTo W k = s at *
              generalize W k = y at *
              go_wp2_with fail
              refine (HWk.out wr).mono ?_
              rintro e w3 ⟨rfl, hb⟩
              have B3 := Lib.hid (BWr.out.trans (hb.mono BWr.out.size))
              clear hb
              go_wp2_with fail
              go_roundw
              case rel => exact ⟨k + 1, by omega, by rw [HN.out]; go_num, by go_num, B3.out⟩
              case measure => simp [intOf]; omega
            · have hkK : k = K := by omega
              have HXE := Lib.hid (show sumTo W k = x by rw [hkK]; exact HALL.out)
              rw [HXE.out]
              have e1 : decide ((k : Int) ≤ c) = false := by simp; have := HKC.out; omega
              clear hlt hkK
              go_wp2_with fail
              refine (H2.out wr).mono ?_
              rintro e w6 ⟨rfl, hb⟩
              have B6 := Lib.hid (BL.out.trans (hb.mono BL.out.size))
              have gx := (hb.block _ (lt_of_block Gx.out)).trans Gx.out
              clear x0 x1 x2 x3
              have x0 := (blk_cell (j := 0) gx).trans (show _ = some (.int .i64 b) from rfl)
              have x1 := (blk_cell (j := 1) gx).trans (show _ = some (.int .i64 m) from rfl)
              have x2 := (blk_cell (j := 2) gx).trans (show _ = some (.int .i64 c) from rfl)
              have x3 := (blk_cell (j := 3) gx).trans (show _ = some (.int .i64 a) from rfl)
              have Gx := Lib.hid gx
              clear hb gx
              have B7 := Lib.hid (B6.out.alloc B6.out.size (.cells #[.int .i64 (p1 : Int), .int .i64 (p2 : Int)] 31))
              have gx := blk_up (o := .cells #[.int .i64 (p1 : Int), .int .i64 (p2 : Int)] 31) Gx.out
              have gr := heap_alloc_new w6 (.cells #[.int .i64 (p1 : Int), .int .i64 (p2 : Int)] 31)
              clear x0 x1 x2 x3
              have x0 := (blk_cell (j := 0) gx).trans (show _ = some (.int .i64 b) from rfl)
              have x1 := (blk_cell (j := 1) gx).trans (show _ = some (.int .i64 m) from rfl)
              have x2 := (blk_cell (j := 2) gx).trans (show _ = some (.int .i64 c) from rfl)
              have x3 := (blk_cell (j := 3) gx).trans (show _ = some (.int .i64 a) from rfl)
              have r0 := (blk_cell (j := 0) gr).trans (show _ = some (.int .i64 (p1 : Int)) from rfl)
              have r1 := (blk_cell (j := 1) gr).trans (show _ = some (.int .i64 (p2 : Int)) from rfl)
              have Gx := Lib.hid gx
              have Gr := Lib.hid gr
              clear gx gr
              go_wp2_with fail
              refine (H3.out (w6.alloc (.cells #[.int .i64 (p1 : Int), .int .i64 (p2 : Int)] 31))).mono ?_
              rintro e w8 ⟨rfl, hb⟩
              have B8 := Lib.hid (B7.out.trans (hb.mono B7.out.size))
              have gx := (hb.block _ (lt_of_block Gx.out)).trans Gx.out
              have gr := (hb.block _ (lt_of_block Gr.out)).trans Gr.out
              clear x0 x1 x2 x3 r0 r1
              have x0 := (blk_cell (j := 0) gx).trans (show _ = some (.int .i64 b) from rfl)
              have x1 := (blk_cell (j := 1) gx).trans (show _ = some (.int .i64 m) from rfl)
              have x2 := (blk_cell (j := 2) gx).trans (show _ = some (.int .i64 c) from rfl)
              have x3 := (blk_cell (j := 3) gx).trans (show _ = some (.int .i64 a) from rfl)
              have r0 := (blk_cell (j := 0) gr).trans (show _ = some (.int .i64 (p1 : Int)) from rfl)
              have r1 := (blk_cell (j := 1) gr).trans (show _ = some (.int .i64 (p2 : Int)) from rfl)
              have Gx := Lib.hid gx
              have Gr := Lib.hid gr
              clear hb gx gr
              have B9 := Lib.hid (B8.out.alloc B8.out.size (.cells #[.int .i64 (p1 : Int), .int .i64 (p2 : Int)] 31))
              have gx := blk_up (o := .cells #[.int .i64 (p1 : Int), .int .i64 (p2 : Int)] 31) Gx.out
              have gr := blk_up (o := .cells #[.int .i64 (p1 : Int), .int .i64 (p2 : Int)] 31) Gr.out
              have gs := heap_alloc_new w8 (.cells #[.int .i64 (p1 : Int), .int .i64 (p2 : Int)] 31)
              clear x0 x1 x2 x3 r0 r1
              have x0 := (blk_cell (j := 0) gx).trans (show _ = some (.int .i64 b) from rfl)
              have x1 := (blk_cell (j := 1) gx).trans (show _ = some (.int .i64 m) from rfl)
              have x2 := (blk_cell (j := 2) gx).trans (show _ = some (.int .i64 c) from rfl)
              have x3 := (blk_cell (j := 3) gx).trans (show _ = some (.int .i64 a) from rfl)
              have r0 := (blk_cell (j := 0) gr).trans (show _ = some (.int .i64 (p1 : Int)) from rfl)
              have r1 := (blk_cell (j := 1) gr).trans (show _ = some (.int .i64 (p2 : Int)) from rfl)
              have s0 := (blk_cell (j := 0) gs).trans (show _ = some (.int .i64 (p1 : Int)) from rfl)
              have s1 := (blk_cell (j := 1) gs).trans (show _ = some (.int .i64 (p2 : Int)) from rfl)
              have Gx := Lib.hid gx
              have Gr := Lib.hid gr
              have Gs := Lib.hid gs
              clear gx gr gs
              go_wp2_with fail
              refine (HKN.out (w8.alloc (.cells #[.int .i64 (p1 : Int), .int .i64 (p2 : Int)] 31))).mono ?_
              rintro e w10 ⟨rfl, hb⟩
              have B10 := Lib.hid (B9.out.trans (hb.mono B9.out.size))
              have gx := (hb.block _ (lt_of_block Gx.out)).trans Gx.out
              have gr := (hb.block _ (lt_of_block Gr.out)).trans Gr.out
              have gs := (hb.block _ (lt_of_block Gs.out)).trans Gs.out
              clear x0 x1 x2 x3 r0 r1 s0 s1
              have x0 := (blk_cell (j := 0) gx).trans (show _ = some (.int .i64 b) from rfl)
              have x1 := (blk_cell (j := 1) gx).trans (show _ = some (.int .i64 m) from rfl)
              have x2 := (blk_cell (j := 2) gx).trans (show _ = some (.int .i64 c) from rfl)
              have x3 := (blk_cell (j := 3) gx).trans (show _ = some (.int .i64 a) from rfl)
              have r0 := (blk_cell (j := 0) gr).trans (show _ = some (.int .i64 (p1 : Int)) from rfl)
              have r1 := (blk_cell (j := 1) gr).trans (show _ = some (.int .i64 (p2 : Int)) from rfl)
              have s0 := (blk_cell (j := 0) gs).trans (show _ = some (.int .i64 (p1 : Int)) from rfl)
              have s1 := (blk_cell (j := 1) gs).trans (show _ = some (.int .i64 (p2 : Int)) from rfl)
              have Gx := Lib.hid gx
              have Gr := Lib.hid gr
              have Gs := Lib.hid gs
              clear hb gx gr gs
              go_wp2_with fail
              go_ret
              exact ⟨rfl, B10.out⟩
        · clear hv HE
          generalize binV b c = x at *
          have B0 := Lib.hid (Below.refl w.heap.size w)
          go_enter Try.func5, Try.ntmps5
          have B1 := Lib.hid (B0.out.alloc B0.out.size (.cells (rc b m c a) 28))
          have gx := heap_alloc_new w (.cells (rc b m c a) 28)
          have x0 := (blk_cell (j := 0) gx).trans (show _ = some (.int .i64 b) from rfl)
          have x1 := (blk_cell (j := 1) gx).trans (show _ = some (.int .i64 m) from rfl)
          have x2 := (blk_cell (j := 2) gx).trans (show _ = some (.int .i64 c) from rfl)
          have x3 := (blk_cell (j := 3) gx).trans (show _ = some (.int .i64 a) from rfl)
          have Gx := Lib.hid gx
          clear gx
          go_wp2_with fail
          refine (H1.out (w.alloc (.cells (rc b m c a) 28))).mono ?_
          rintro e w2 ⟨rfl, hb⟩
          have B2 := Lib.hid (B1.out.trans (hb.mono B1.out.size))
          have gx := (hb.block _ (lt_of_block Gx.out)).trans Gx.out
          clear x0 x1 x2 x3
          have x0 := (blk_cell (j := 0) gx).trans (show _ = some (.int .i64 b) from rfl)
          have x1 := (blk_cell (j := 1) gx).trans (show _ = some (.int .i64 m) from rfl)
          have x2 := (blk_cell (j := 2) gx).trans (show _ = some (.int .i64 c) from rfl)
          have x3 := (blk_cell (j := 3) gx).trans (show _ = some (.int .i64 a) from rfl)
          have Gx := Lib.hid gx
          clear hb gx
          go_wp2_with fail
          refine (HKN.out w2).mono ?_
          rintro e w3 ⟨rfl, hb⟩
          have B3 := Lib.hid (B2.out.trans (hb.mono B2.out.size))
          have gx := (hb.block _ (lt_of_block Gx.out)).trans Gx.out
          clear x0 x1 x2 x3
          have x0 := (blk_cell (j := 0) gx).trans (show _ = some (.int .i64 b) from rfl)
          have x1 := (blk_cell (j := 1) gx).trans (show _ = some (.int .i64 m) from rfl)
          have x2 := (blk_cell (j := 2) gx).trans (show _ = some (.int .i64 c) from rfl)
          have x3 := (blk_cell (j := 3) gx).trans (show _ = some (.int .i64 a) from rfl)
          have Gx := Lib.hid gx
          clear hb gx
          go_wp2_with fail
          go_ret
          exact ⟨rfl, B3.out⟩
      · clear hv HE
        generalize binV b c = x at *
        have B0 := Lib.hid (Below.refl w.heap.size w)
        go_enter Try.func5, Try.ntmps5
        have B1 := Lib.hid (B0.out.alloc B0.out.size (.cells (rc b m c a) 28))
        have gx := heap_alloc_new w (.cells (rc b m c a) 28)
        have x0 := (blk_cell (j := 0) gx).trans (show _ = some (.int .i64 b) from rfl)
        have x1 := (blk_cell (j := 1) gx).trans (show _ = some (.int .i64 m) from rfl)
        have x2 := (blk_cell (j := 2) gx).trans (show _ = some (.int .i64 c) from rfl)
        have x3 := (blk_cell (j := 3) gx).trans (show _ = some (.int .i64 a) from rfl)
        have Gx := Lib.hid gx
        clear gx
        go_wp2_with fail
        refine (H1.out (w.alloc (.cells (rc b m c a) 28))).mono ?_
        rintro e w2 ⟨rfl, hb⟩
        have B2 := Lib.hid (B1.out.trans (hb.mono B1.out.size))
        have gx := (hb.block _ (lt_of_block Gx.out)).trans Gx.out
        clear x0 x1 x2 x3
        have x0 := (blk_cell (j := 0) gx).trans (show _ = some (.int .i64 b) from rfl)
        have x1 := (blk_cell (j := 1) gx).trans (show _ = some (.int .i64 m) from rfl)
        have x2 := (blk_cell (j := 2) gx).trans (show _ = some (.int .i64 c) from rfl)
        have x3 := (blk_cell (j := 3) gx).trans (show _ = some (.int .i64 a) from rfl)
        have Gx := Lib.hid gx
        clear hb gx
        go_wp2_with fail
        refine (HKN.out w2).mono ?_
        rintro e w3 ⟨rfl, hb⟩
        have B3 := Lib.hid (B2.out.trans (hb.mono B2.out.size))
        have gx := (hb.block _ (lt_of_block Gx.out)).trans Gx.out
        clear x0 x1 x2 x3
        have x0 := (blk_cell (j := 0) gx).trans (show _ = some (.int .i64 b) from rfl)
        have x1 := (blk_cell (j := 1) gx).trans (show _ = some (.int .i64 m) from rfl)
        have x2 := (blk_cell (j := 2) gx).trans (show _ = some (.int .i64 c) from rfl)
        have x3 := (blk_cell (j := 3) gx).trans (show _ = some (.int .i64 a) from rfl)
        have Gx := Lib.hid gx
        clear hb gx
        go_wp2_with fail
        go_ret
        exact ⟨rfl, B3.out⟩
    · clear hv HE
      generalize binV b c = x at *
      have B0 := Lib.hid (Below.refl w.heap.size w)
      go_enter Try.func5, Try.ntmps5
      have B1 := Lib.hid (B0.out.alloc B0.out.size (.cells (rc b m c a) 28))
      have gx := heap_alloc_new w (.cells (rc b m c a) 28)
      have x0 := (blk_cell (j := 0) gx).trans (show _ = some (.int .i64 b) from rfl)
      have x1 := (blk_cell (j := 1) gx).trans (show _ = some (.int .i64 m) from rfl)
      have x2 := (blk_cell (j := 2) gx).trans (show _ = some (.int .i64 c) from rfl)
      have x3 := (blk_cell (j := 3) gx).trans (show _ = some (.int .i64 a) from rfl)
      have Gx := Lib.hid gx
      clear gx
      go_wp2_with fail
      refine (H1.out (w.alloc (.cells (rc b m c a) 28))).mono ?_
      rintro e w2 ⟨rfl, hb⟩
      have B2 := Lib.hid (B1.out.trans (hb.mono B1.out.size))
      have gx := (hb.block _ (lt_of_block Gx.out)).trans Gx.out
      clear x0 x1 x2 x3
      have x0 := (blk_cell (j := 0) gx).trans (show _ = some (.int .i64 b) from rfl)
      have x1 := (blk_cell (j := 1) gx).trans (show _ = some (.int .i64 m) from rfl)
      have x2 := (blk_cell (j := 2) gx).trans (show _ = some (.int .i64 c) from rfl)
      have x3 := (blk_cell (j := 3) gx).trans (show _ = some (.int .i64 a) from rfl)
      have Gx := Lib.hid gx
      clear hb gx
      go_wp2_with fail
      refine (HKN.out w2).mono ?_
      rintro e w3 ⟨rfl, hb⟩
      have B3 := Lib.hid (B2.out.trans (hb.mono B2.out.size))
      have gx := (hb.block _ (lt_of_block Gx.out)).trans Gx.out
      clear x0 x1 x2 x3
      have x0 := (blk_cell (j := 0) gx).trans (show _ = some (.int .i64 b) from rfl)
      have x1 := (blk_cell (j := 1) gx).trans (show _ = some (.int .i64 m) from rfl)
      have x2 := (blk_cell (j := 2) gx).trans (show _ = some (.int .i64 c) from rfl)
      have x3 := (blk_cell (j := 3) gx).trans (show _ = some (.int .i64 a) from rfl)
      have Gx := Lib.hid gx
      clear hb gx
      go_wp2_with fail
      go_ret
      exact ⟨rfl, B3.out⟩
end Go.Proofs.Ytgpghnhpbjnhkaa

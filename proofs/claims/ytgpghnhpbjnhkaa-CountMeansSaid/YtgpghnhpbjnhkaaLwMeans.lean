/-
  CountMeans: the walk. Every argument.
-/
import Derived.Test.YtgpghnhpbjnhkaaCc6
import Derived.Deep.RegionHeld3
namespace Go.Proofs.Ytgpghnhpbjnhkaa
open Go.RowKit
set_option linter.unusedVariables false

theorem mean_fr {b m c : Nat} (hb : 0 < b) (hm : m ≤ b) (hc : c ≤ b) : fr (sumTo (fun i => i * wN b m c i) (c + 1)) (ch b c) = fr (m * c) b := by
  refine fr_eq (ch_pos hc) hb ?_
  have e : sumTo (fun i => i * wN b m c i) (c + 1) = sumTo (fun i => i * (ch m i * ch (b - m) (c - i))) (c + 1) := by
    refine sumTo_congr _ fun i hi => ?_
    show i * wN b m c i = i * _
    rw [wN_fit hm hc]
    unfold wy
    rw [if_pos (by omega)]
  rw [e]
  rcases Nat.eq_zero_or_pos m with h0 | h0
  · subst h0
    rw [sumTo_zero _ (c + 1) (fun i _ => by
      cases i with
      | zero => rw [Nat.zero_mul]
      | succ i => rw [ch_gt (Nat.succ_pos i), Nat.zero_mul, Nat.mul_zero])]
    simp
  · rcases Nat.eq_zero_or_pos c with h1 | h1
    · subst h1
      show (0 + 0 * _) * b = m * 0 * _
      simp
    · obtain ⟨m', rfl⟩ := Nat.exists_eq_add_of_le h0
      obtain ⟨c', rfl⟩ := Nat.exists_eq_add_of_le h1
      obtain ⟨b', rfl⟩ := Nat.exists_eq_add_of_le hb
      have h := ch_mean m' (1 + b' - (1 + m')) c'
      rw [show m' + (1 + b' - (1 + m')) = b' by omega] at h
      rw [show 1 + m' = m' + 1 by omega, show 1 + c' = c' + 1 by omega, show 1 + b' = b' + 1 by omega] at *
      rw [h]
      have h2 := ch_mul b' c'
      calc (m' + 1) * ch b' c' * (b' + 1) = (m' + 1) * ((b' + 1) * ch b' c') := by ac_rfl
        _ = (m' + 1) * (ch (b' + 1) (c' + 1) * (c' + 1)) := by rw [h2]
        _ = _ := by ac_rfl
theorem mean_le {b m c : Nat} (hm : m ≤ b) (hc : c ≤ b) (k : Nat) (hk : k ≤ 61) : sumTo (fun i => i * wN b m c i) k ≤ 60 * ch b c := by
  have h : ∀ k, k ≤ 61 → sumTo (fun i => i * wN b m c i) k ≤ 60 * sumTo (wN b m c) k := by
    intro k
    induction k with
    | zero => intro _; exact Nat.zero_le _
    | succ k ih =>
      intro hk
      show _ + k * wN b m c k ≤ 60 * (_ + wN b m c k)
      rw [Nat.mul_add]
      exact Nat.add_le_add (ih (by omega)) (Nat.mul_le_mul_right _ (by omega))
  exact Nat.le_trans (h k hk) (Nat.mul_le_mul_left _ (sumTo_le hm hc))
theorem ch40 {b : Nat} (h : b ≤ 40) (c : Nat) : ch b c ≤ 137846528820 := by
  refine Nat.le_trans (ch_mono h c) ?_
  rcases Nat.lt_or_ge 40 c with h | h
  · rw [ch_gt h]; exact Nat.zero_le _
  · rw [← chF_eq]
    have : ∀ k, k < 41 → chF 40 k ≤ 137846528820 := by decide +kernel
    exact this c (by omega)
set_option maxRecDepth 8000 in
set_option maxHeartbeats 4000000 in
theorem Means_walk (b m c a : Int) (w : World) : Calls Try.prog 6 #[.agg (rc b m c a)] w fun e w' => e = .returned (.bool true) ∧ Below w.heap.size w w' := by
  have HKN := Lib.hid known_any
  have H1 := Lib.hid (fun w => Mean_any b m c w)
  have H2 := Lib.hid (fun w => rMean_any b m c w)
  by_cases hE : meE b m c = 0
  · rw [hE] at H1 H2
    by_cases h40 : b ≤ 40
    · have hce : chE b m c 0 = 0 := by
        unfold meE at hE
        split at hE
        · assumption
        · exact hE
      have hb0 : b ≠ 0 := by
        intro h
        unfold meE at hE
        rw [if_pos hce, if_pos h] at hE
        cases hE
      obtain ⟨⟨⟨b0, b1⟩, ⟨m0, m1⟩, ⟨c0, c1⟩, _⟩, k1, k2⟩ := chE_fit hce
      have hv : allB [b, c] = true := allB2_iff.2 ⟨⟨b0, b1⟩, c0, c1⟩
      have H3 := Lib.hid (fun w => Binomial_any b c w)
      rw [show binE b c = 0 from if_pos hv] at H3
      have hX : binV b c = ch b.toNat c.toNat := by unfold binV; rw [if_pos hv, ← bI_nat, show ((b.toNat : Nat) : Int) = b by omega, show ((c.toNat : Nat) : Int) = c by omega]
      have hV : meV b m c = fr (m.toNat * c.toNat) b.toNat := if_pos hE
      obtain ⟨K, hK⟩ : ∃ K, K = c.toNat + 1 := ⟨_, rfl⟩
      have hmf := mean_fr (b := b.toNat) (m := m.toNat) (c := c.toNat) (by omega) (by omega) (by omega)
      rw [← hX, ← hV, ← hK] at hmf
      have hch := ch40 (b := b.toNat) (by omega) c.toNat
      rw [← hX] at hch
      have hchp : 0 < binV b c := by rw [hX]; exact ch_pos (by omega)
      have HS := Lib.hid (fun j (hj : j ≤ 61) => show sumTo (fun i => i * wN b.toNat m.toNat c.toNat i) j ≤ 60 * 137846528820 from Nat.le_trans (mean_le (by omega) (by omega) j hj) (Nat.mul_le_mul_left _ (by rw [← hX]; exact hch)))
      have HKC := Lib.hid (show (K : Int) = c + 1 by omega)
      have HWy := Lib.hid (fun (i : Nat) (hi : i < K) w => Ways_any b m c i w)
      have HWE := Lib.hid (fun (i : Nat) (hi : i < K) => show wysE b m c i = 0 from if_pos (allB4_iff.2 ⟨⟨b0, b1⟩, ⟨by omega, by omega⟩, ⟨c0, c1⟩, by omega, by omega⟩))
      have HWV := Lib.hid (fun (i : Nat) (hi : i < K) => show wysV b m c i = wN b.toNat m.toNat c.toNat i from by unfold wysV; rw [if_pos (allB4_iff.2 ⟨⟨b0, b1⟩, ⟨by omega, by omega⟩, ⟨c0, c1⟩, by omega, by omega⟩)]; rfl)
      have HWL := Lib.hid (fun (i : Nat) => show wN b.toNat m.toNat c.toNat i ≤ 137846528820 from by
        rw [wN_fit (by omega) (by omega)]; exact Nat.le_trans (wy_le (by omega)) (by rw [← hX]; exact hch))
      have hk61 : K ≤ 61 := by omega
      have HR := Lib.hid (fun w => Ratio_any (sumTo (fun i => i * wN b.toNat m.toNat c.toNat i) K) (binV b c) (by have := HS.out K hk61; omega) (by omega) hchp w)
      rw [hmf] at HR
      have e0 : decide (40 < b) = false := by simp; omega
      clear hE hce hv hX hV hK hmf hch hchp h40 hb0
      generalize binV b c = x at *
      generalize meV b m c = p at *
      obtain ⟨p1, p2⟩ := p
      unfold ratV at H1 H2 HR
      generalize hww : wN b.toNat m.toNat c.toNat = W at *
      clear hww
      have pi := fun W => rat_in (p1 : Int) (p2 : Int) W
      have pe := fun W => rat_eq (p1 : Int) (p2 : Int) W
      have pn := fun W => rat_ne (p1 : Int) (p2 : Int) W
      have hgr := guard_rat
      have B0 := Lib.hid (Below.refl w.heap.size w)
      go_enter Try.func6, Try.ntmps6
      have B1 := Lib.hid (B0.out.alloc B0.out.size (.cells (rc b m c a) 28))
      have gx := heap_alloc_new w (.cells (rc b m c a) 28)
      have x0 := (blk_cell (j := 0) gx).trans (show _ = some (.int .i64 b) from rfl)
      have x1 := (blk_cell (j := 1) gx).trans (show _ = some (.int .i64 m) from rfl)
      have x2 := (blk_cell (j := 2) gx).trans (show _ = some (.int .i64 c) from rfl)
      have x3 := (blk_cell (j := 3) gx).trans (show _ = some (.int .i64 a) from rfl)
      have Gx := Lib.hid gx
      clear gx
      go_wp2_with fail
      refine (H1.out (w.alloc (.cells (rc b m c a) 28))).mono ?_
      rintro e w2 ⟨rfl, hb⟩
      have B2 := Lib.hid (B1.out.trans (hb.mono B1.out.size))
      have gx := (hb.block _ (lt_of_block Gx.out)).trans Gx.out
      clear x0 x1 x2 x3
      have x0 := (blk_cell (j := 0) gx).trans (show _ = some (.int .i64 b) from rfl)
      have x1 := (blk_cell (j := 1) gx).trans (show _ = some (.int .i64 m) from rfl)
      have x2 := (blk_cell (j := 2) gx).trans (show _ = some (.int .i64 c) from rfl)
      have x3 := (blk_cell (j := 3) gx).trans (show _ = some (.int .i64 a) from rfl)
      have Gx := Lib.hid gx
      clear hb gx
      have B3 := Lib.hid (B2.out.alloc B2.out.size (.cells #[.int .i64 (p1 : Int), .int .i64 (p2 : Int)] 31))
      have gx := blk_up (o := .cells #[.int .i64 (p1 : Int), .int .i64 (p2 : Int)] 31) Gx.out
      have gr := heap_alloc_new w2 (.cells #[.int .i64 (p1 : Int), .int .i64 (p2 : Int)] 31)
      clear x0 x1 x2 x3
      have x0 := (blk_cell (j := 0) gx).trans (show _ = some (.int .i64 b) from rfl)
      have x1 := (blk_cell (j := 1) gx).trans (show _ = some (.int .i64 m) from rfl)
      have x2 := (blk_cell (j := 2) gx).trans (show _ = some (.int .i64 c) from rfl)
      have x3 := (blk_cell (j := 3) gx).trans (show _ = some (.int .i64 a) from rfl)
      have r0 := (blk_cell (j := 0) gr).trans (show _ = some (.int .i64 (p1 : Int)) from rfl)
      have r1 := (blk_cell (j := 1) gr).trans (show _ = some (.int .i64 (p2 : Int)) from rfl)
      have Gx := Lib.hid gx
      have Gr := Lib.hid gr
      clear gx gr
      go_wp2_with fail
      refine (H2.out (w2.alloc (.cells #[.int .i64 (p1 : Int), .int .i64 (p2 : Int)] 31))).mono ?_
      rintro e w4 ⟨rfl, hb⟩
      have B4 := Lib.hid (B3.out.trans (hb.mono B3.out.size))
      have gx := (hb.block _ (lt_of_block Gx.out)).trans Gx.out
      have gr := (hb.block _ (lt_of_block Gr.out)).trans Gr.out
      clear x0 x1 x2 x3 r0 r1
      have x0 := (blk_cell (j := 0) gx).trans (show _ = some (.int .i64 b) from rfl)
      have x1 := (blk_cell (j := 1) gx).trans (show _ = some (.int .i64 m) from rfl)
      have x2 := (blk_cell (j := 2) gx).trans (show _ = some (.int .i64 c) from rfl)
      have x3 := (blk_cell (j := 3) gx).trans (show _ = some (.int .i64 a) from rfl)
      have r0 := (blk_cell (j := 0) gr).trans (show _ = some (.int .i64 (p1 : Int)) from rfl)
      have r1 := (blk_cell (j := 1) gr).trans (show _ = some (.int .i64 (p2 : Int)) from rfl)
      have Gx := Lib.hid gx
      have Gr := Lib.hid gr
      clear hb gx gr
      have B5 := Lib.hid (B4.out.alloc B4.out.size (.cells #[.int .i64 (p1 : Int), .int .i64 (p2 : Int)] 31))
      have gx := blk_up (o := .cells #[.int .i64 (p1 : Int), .int .i64 (p2 : Int)] 31) Gx.out
      have gr := blk_up (o := .cells #[.int .i64 (p1 : Int), .int .i64 (p2 : Int)] 31) Gr.out
      have gs := heap_alloc_new w4 (.cells #[.int .i64 (p1 : Int), .int .i64 (p2 : Int)] 31)
      clear x0 x1 x2 x3 r0 r1
      have x0 := (blk_cell (j := 0) gx).trans (show _ = some (.int .i64 b) from rfl)
      have x1 := (blk_cell (j := 1) gx).trans (show _ = some (.int .i64 m) from rfl)
      have x2 := (blk_cell (j := 2) gx).trans (show _ = some (.int .i64 c) from rfl)
      have x3 := (blk_cell (j := 3) gx).trans (show _ = some (.int .i64 a) from rfl)
      have r0 := (blk_cell (j := 0) gr).trans (show _ = some (.int .i64 (p1 : Int)) from rfl)
      have r1 := (blk_cell (j := 1) gr).trans (show _ = some (.int .i64 (p2 : Int)) from rfl)
      have s0 := (blk_cell (j := 0) gs).trans (show _ = some (.int .i64 (p1 : Int)) from rfl)
      have s1 := (blk_cell (j := 1) gs).trans (show _ = some (.int .i64 (p2 : Int)) from rfl)
      have Gx := Lib.hid gx
      have Gr := Lib.hid gr
      have Gs := Lib.hid gs
      clear gx gr gs
      go_wp2_with fail
      refine (H3.out (w4.alloc (.cells #[.int .i64 (p1 : Int), .int .i64 (p2 : Int)] 31))).mono ?_
      rintro e w6 ⟨rfl, hb⟩
      have B6 := Lib.hid (B5.out.trans (hb.mono B5.out.size))
      have gx := (hb.block _ (lt_of_block Gx.out)).trans Gx.out
      have gr := (hb.block _ (lt_of_block Gr.out)).trans Gr.out
      have gs := (hb.block _ (lt_of_block Gs.out)).trans Gs.out
      clear x0 x1 x2 x3 r0 r1 s0 s1
      have x0 := (blk_cell (j := 0) gx).trans (show _ = some (.int .i64 b) from rfl)
      have x1 := (blk_cell (j := 1) gx).trans (show _ = some (.int .i64 m) from rfl)
      have x2 := (blk_cell (j := 2) gx).trans (show _ = some (.int .i64 c) from rfl)
      have x3 := (blk_cell (j := 3) gx).trans (show _ = some (.int .i64 a) from rfl)
      have r0 := (blk_cell (j := 0) gr).trans (show _ = some (.int .i64 (p1 : Int)) from rfl)
      have r1 := (blk_cell (j := 1) gr).trans (show _ = some (.int .i64 (p2 : Int)) from rfl)
      have s0 := (blk_cell (j := 0) gs).trans (show _ = some (.int .i64 (p1 : Int)) from rfl)
      have s1 := (blk_cell (j := 1) gs).trans (show _ = some (.int .i64 (p2 : Int)) from rfl)
      have Gx := Lib.hid gx
      have Gr := Lib.hid gr
      have Gs := Lib.hid gs
      clear hb gx gr gs
      go_wp2_with fail
      have BW := Lib.hid (Below.refl w6.heap.size w6)
      clear x0 x1 x2 x3 r0 r1 s0 s1
      go_loopw [9, 10] (fun u v wr => ∃ k : Nat, k ≤ K ∧ u = .int .i64 (sumTo (fun i => i * W i) k : Nat) ∧ v = .int .i64 k ∧ Below w6.heap.size w6 wr) (fun _ v _ => K - (intOf v).toNat)
      case atStart => exact ⟨0, by omega, rfl, rfl, BW.out⟩
      case round =>
        obtain ⟨k, hk, rfl, rfl, hb⟩ := hrel
        have gx := (hb.block _ (lt_of_blk Gx.out)).trans Gx.out
        have x0 := (blk_cell (j := 0) gx).trans (show _ = some (.int .i64 b) from rfl)
        have x1 := (blk_cell (j := 1) gx).trans (show _ = some (.int .i64 m) from rfl)
        have x2 := (blk_cell (j := 2) gx).trans (show _ = some (.int .i64 c) from rfl)
        have x3 := (blk_cell (j := 3) gx).trans (show _ = some (.int .i64 a) from rfl)
        have Gx := Lib.hid gx
        have gr := (hb.block _ (lt_of_blk Gr.out)).trans Gr.out
        have r0 := (blk_cell (j := 0) gr).trans (show _ = some (.int .i64 (p1 : Int)) from rfl)
        have r1 := (blk_cell (j := 1) gr).trans (show _ = some (.int .i64 (p2 : Int)) from rfl)
        have Gr := Lib.hid gr
        have BL := Lib.hid (B6.out.trans (hb.mono B6.out.size))
        have BWr := Lib.hid hb
        clear gx gr hb
        by_cases hlt : k < K
        · have e1 : decide ((k : Int) ≤ c) = true := by simp; have := HKC.out; omega
          have HWk := Lib.hid (fun w => HWy.out k hlt w)
          rw [HWE.out k hlt, HWV.out k hlt] at HWk
          have s1 := HS.out k (by omega)
          have s2 := HS.out (k + 1) (by omega)
          have s3 := HWL.out k
          have HN := Lib.hid (show sumTo (fun i => i * W i) (k + 1) = sumTo (fun i => i * W i) k + k * W k from rfl)
          rw [HN.out] at s2
          have s4 : k * W k ≤ 60 * 137846528820 := Nat.mul_le_mul (by omega) s3
          generalize sumTo (fun i => i * W i) k = s at *
          generalize W k = y at *
          have HMM := Lib.hid (Int.natCast_mul k y)
          have s5 : 0 ≤ (k : Int) * (y : Int) := by rw [← HMM.out]; omega
          have s6 : (k : Int) * (y : Int) ≤ 60 * 137846528820 := by rw [← HMM.out]; omega
          go_wp2_with fail
          refine (HWk.out wr).mono ?_
          rintro e w3 ⟨rfl, hb⟩
          have B3 := Lib.hid (BWr.out.trans (hb.mono BWr.out.size))
          clear hb
          go_wp2_with fail
          go_roundw
          case rel => exact ⟨k + 1, by omega, by rw [HN.out, Int.natCast_add, HMM.out], by go_num, B3.out⟩
          case measure => simp [intOf]; omega
        · have hkK : k = K := by omega
          rw [hkK]
          have e1 : decide ((K : Int) ≤ c) = false := by simp; have := HKC.out; omega
          generalize sumTo (fun i => i * W i) K = sK at *
          clear hlt hk
          subst hkK
          go_wp2_with fail
          have HK := Lib.hid (fun (w5 : World) (k : Below wr.heap.size wr w5) => show (w5.cell? ⟨w2.heap.size, 0, none⟩ = some (.int .i64 (p1 : Int)) ∧ w5.cell? ⟨w2.heap.size, 1, none⟩ = some (.int .i64 (p2 : Int))) from ⟨cell_keep r0 k (lt_of_blk Gr.out), cell_keep r1 k (lt_of_blk Gr.out)⟩)
          have HS0 := Lib.hid (HK.out wr.drew ((Below.refl _ wr).drew))
          have BD := Lib.hid ((Below.refl wr.heap.size wr).drew)
          clear r0 r1 x0 x1 x2 x3
          go_region_held3 (fun w' => (w'.cell? ⟨w2.heap.size, 0, none⟩ = some (.int .i64 (p1 : Int)) ∧ w'.cell? ⟨w2.heap.size, 1, none⟩ = some (.int .i64 (p2 : Int))))
            (first | exact HS0.out | exact SK7.out | exact SK8.out)
            ((first
              | (go_at_call 24; refine (HR.out wr.drew).mono ?_; rintro e w7 ⟨rfl, hb⟩; have B7 := Lib.hid (BD.out.trans (hb.mono BD.out.size)); have SK7 := Lib.hid (HK.out w7 B7.out); clear hb)
              | (go_at_call 15; refine (HKN.out w7).mono ?_; rintro e w8 ⟨rfl, hb⟩; have B8 := Lib.hid (B7.out.trans (hb.mono B7.out.size)); have SK8 := Lib.hid (HK.out w8 B8.out); clear hb)))
          all_goals
            go_wp2_with fail
            go_ret
            exact ⟨rfl, BL.out.trans (B8.out.mono BL.out.size)⟩
    · have e0 : decide (40 < b) = true := by simp; omega
      clear hE h40
      generalize meV b m c = p at *
      obtain ⟨p1, p2⟩ := p
      unfold ratV at H1 H2
      have pi := fun W => rat_in (p1 : Int) (p2 : Int) W
      have pe := fun W => rat_eq (p1 : Int) (p2 : Int) W
      have pn := fun W => rat_ne (p1 : Int) (p2 : Int) W
      have hgr := guard_rat
      have B0 := Lib.hid (Below.refl w.heap.size w)
      go_enter Try.func6, Try.ntmps6
      have B1 := Lib.hid (B0.out.alloc B0.out.size (.cells (rc b m c a) 28))
      have gx := heap_alloc_new w (.cells (rc b m c a) 28)
      have x0 := (blk_cell (j := 0) gx).trans (show _ = some (.int .i64 b) from rfl)
      have x1 := (blk_cell (j := 1) gx).trans (show _ = some (.int .i64 m) from rfl)
      have x2 := (blk_cell (j := 2) gx).trans (show _ = some (.int .i64 c) from rfl)
      have x3 := (blk_cell (j := 3) gx).trans (show _ = some (.int .i64 a) from rfl)
      have Gx := Lib.hid gx
      clear gx
      go_wp2_with fail
      refine (H1.out (w.alloc (.cells (rc b m c a) 28))).mono ?_
      rintro e w2 ⟨rfl, hb⟩
      have B2 := Lib.hid (B1.out.trans (hb.mono B1.out.size))
      have gx := (hb.block _ (lt_of_block Gx.out)).trans Gx.out
      clear x0 x1 x2 x3
      have x0 := (blk_cell (j := 0) gx).trans (show _ = some (.int .i64 b) from rfl)
      have x1 := (blk_cell (j := 1) gx).trans (show _ = some (.int .i64 m) from rfl)
      have x2 := (blk_cell (j := 2) gx).trans (show _ = some (.int .i64 c) from rfl)
      have x3 := (blk_cell (j := 3) gx).trans (show _ = some (.int .i64 a) from rfl)
      have Gx := Lib.hid gx
      clear hb gx
      have B3 := Lib.hid (B2.out.alloc B2.out.size (.cells #[.int .i64 (p1 : Int), .int .i64 (p2 : Int)] 31))
      have gx := blk_up (o := .cells #[.int .i64 (p1 : Int), .int .i64 (p2 : Int)] 31) Gx.out
      have gr := heap_alloc_new w2 (.cells #[.int .i64 (p1 : Int), .int .i64 (p2 : Int)] 31)
      clear x0 x1 x2 x3
      have x0 := (blk_cell (j := 0) gx).trans (show _ = some (.int .i64 b) from rfl)
      have x1 := (blk_cell (j := 1) gx).trans (show _ = some (.int .i64 m) from rfl)
      have x2 := (blk_cell (j := 2) gx).trans (show _ = some (.int .i64 c) from rfl)
      have x3 := (blk_cell (j := 3) gx).trans (show _ = some (.int .i64 a) from rfl)
      have r0 := (blk_cell (j := 0) gr).trans (show _ = some (.int .i64 (p1 : Int)) from rfl)
      have r1 := (blk_cell (j := 1) gr).trans (show _ = some (.int .i64 (p2 : Int)) from rfl)
      have Gx := Lib.hid gx
      have Gr := Lib.hid gr
      clear gx gr
      go_wp2_with fail
      refine (H2.out (w2.alloc (.cells #[.int .i64 (p1 : Int), .int .i64 (p2 : Int)] 31))).mono ?_
      rintro e w4 ⟨rfl, hb⟩
      have B4 := Lib.hid (B3.out.trans (hb.mono B3.out.size))
      have gx := (hb.block _ (lt_of_block Gx.out)).trans Gx.out
      have gr := (hb.block _ (lt_of_block Gr.out)).trans Gr.out
      clear x0 x1 x2 x3 r0 r1
      have x0 := (blk_cell (j := 0) gx).trans (show _ = some (.int .i64 b) from rfl)
      have x1 := (blk_cell (j := 1) gx).trans (show _ = some (.int .i64 m) from rfl)
      have x2 := (blk_cell (j := 2) gx).trans (show _ = some (.int .i64 c) from rfl)
      have x3 := (blk_cell (j := 3) gx).trans (show _ = some (.int .i64 a) from rfl)
      have r0 := (blk_cell (j := 0) gr).trans (show _ = some (.int .i64 (p1 : Int)) from rfl)
      have r1 := (blk_cell (j := 1) gr).trans (show _ = some (.int .i64 (p2 : Int)) from rfl)
      have Gx := Lib.hid gx
      have Gr := Lib.hid gr
      clear hb gx gr
      have B5 := Lib.hid (B4.out.alloc B4.out.size (.cells #[.int .i64 (p1 : Int), .int .i64 (p2 : Int)] 31))
      have gx := blk_up (o := .cells #[.int .i64 (p1 : Int), .int .i64 (p2 : Int)] 31) Gx.out
      have gr := blk_up (o := .cells #[.int .i64 (p1 : Int), .int .i64 (p2 : Int)] 31) Gr.out
      have gs := heap_alloc_new w4 (.cells #[.int .i64 (p1 : Int), .int .i64 (p2 : Int)] 31)
      clear x0 x1 x2 x3 r0 r1
      have x0 := (blk_cell (j := 0) gx).trans (show _ = some (.int .i64 b) from rfl)
      have x1 := (blk_cell (j := 1) gx).trans (show _ = some (.int .i64 m) from rfl)
      have x2 := (blk_cell (j := 2) gx).trans (show _ = some (.int .i64 c) from rfl)
      have x3 := (blk_cell (j := 3) gx).trans (show _ = some (.int .i64 a) from rfl)
      have r0 := (blk_cell (j := 0) gr).trans (show _ = some (.int .i64 (p1 : Int)) from rfl)
      have r1 := (blk_cell (j := 1) gr).trans (show _ = some (.int .i64 (p2 : Int)) from rfl)
      have s0 := (blk_cell (j := 0) gs).trans (show _ = some (.int .i64 (p1 : Int)) from rfl)
      have s1 := (blk_cell (j := 1) gs).trans (show _ = some (.int .i64 (p2 : Int)) from rfl)
      have Gx := Lib.hid gx
      have Gr := Lib.hid gr
      have Gs := Lib.hid gs
      clear gx gr gs
      go_wp2_with fail
      refine (HKN.out (w4.alloc (.cells #[.int .i64 (p1 : Int), .int .i64 (p2 : Int)] 31))).mono ?_
      rintro e w6 ⟨rfl, hb⟩
      have B6 := Lib.hid (B5.out.trans (hb.mono B5.out.size))
      have gx := (hb.block _ (lt_of_block Gx.out)).trans Gx.out
      have gr := (hb.block _ (lt_of_block Gr.out)).trans Gr.out
      have gs := (hb.block _ (lt_of_block Gs.out)).trans Gs.out
      clear x0 x1 x2 x3 r0 r1 s0 s1
      have x0 := (blk_cell (j := 0) gx).trans (show _ = some (.int .i64 b) from rfl)
      have x1 := (blk_cell (j := 1) gx).trans (show _ = some (.int .i64 m) from rfl)
      have x2 := (blk_cell (j := 2) gx).trans (show _ = some (.int .i64 c) from rfl)
      have x3 := (blk_cell (j := 3) gx).trans (show _ = some (.int .i64 a) from rfl)
      have r0 := (blk_cell (j := 0) gr).trans (show _ = some (.int .i64 (p1 : Int)) from rfl)
      have r1 := (blk_cell (j := 1) gr).trans (show _ = some (.int .i64 (p2 : Int)) from rfl)
      have s0 := (blk_cell (j := 0) gs).trans (show _ = some (.int .i64 (p1 : Int)) from rfl)
      have s1 := (blk_cell (j := 1) gs).trans (show _ = some (.int .i64 (p2 : Int)) from rfl)
      have Gx := Lib.hid gx
      have Gr := Lib.hid gr
      have Gs := Lib.hid gs
      clear hb gx gr gs
      go_wp2_with fail
      go_ret
      exact ⟨rfl, B6.out⟩
  · have e1 : (meE b m c != 0) = true := by simpa using hE
    clear hE
    generalize meV b m c = p at *
    generalize meE b m c = E at *
    obtain ⟨p1, p2⟩ := p
    unfold ratV at H1 H2
    have pi := fun W => rat_in (p1 : Int) (p2 : Int) W
    have pe := fun W => rat_eq (p1 : Int) (p2 : Int) W
    have pn := fun W => rat_ne (p1 : Int) (p2 : Int) W
    have hgr := guard_rat
    have B0 := Lib.hid (Below.refl w.heap.size w)
    go_enter Try.func6, Try.ntmps6
    have B1 := Lib.hid (B0.out.alloc B0.out.size (.cells (rc b m c a) 28))
    have gx := heap_alloc_new w (.cells (rc b m c a) 28)
    have x0 := (blk_cell (j := 0) gx).trans (show _ = some (.int .i64 b) from rfl)
    have x1 := (blk_cell (j := 1) gx).trans (show _ = some (.int .i64 m) from rfl)
    have x2 := (blk_cell (j := 2) gx).trans (show _ = some (.int .i64 c) from rfl)
    have x3 := (blk_cell (j := 3) gx).trans (show _ = some (.int .i64 a) from rfl)
    have Gx := Lib.hid gx
    clear gx
    go_wp2_with fail
    refine (H1.out (w.alloc (.cells (rc b m c a) 28))).mono ?_
    rintro e w2 ⟨rfl, hb⟩
    have B2 := Lib.hid (B1.out.trans (hb.mono B1.out.size))
    have gx := (hb.block _ (lt_of_block Gx.out)).trans Gx.out
    clear x0 x1 x2 x3
    have x0 := (blk_cell (j := 0) gx).trans (show _ = some (.int .i64 b) from rfl)
    have x1 := (blk_cell (j := 1) gx).trans (show _ = some (.int .i64 m) from rfl)
    have x2 := (blk_cell (j := 2) gx).trans (show _ = some (.int .i64 c) from rfl)
    have x3 := (blk_cell (j := 3) gx).trans (show _ = some (.int .i64 a) from rfl)
    have Gx := Lib.hid gx
    clear hb gx
    have B3 := Lib.hid (B2.out.alloc B2.out.size (.cells #[.int .i64 (p1 : Int), .int .i64 (p2 : Int)] 31))
    have gx := blk_up (o := .cells #[.int .i64 (p1 : Int), .int .i64 (p2 : Int)] 31) Gx.out
    have gr := heap_alloc_new w2 (.cells #[.int .i64 (p1 : Int), .int .i64 (p2 : Int)] 31)
    clear x0 x1 x2 x3
    have x0 := (blk_cell (j := 0) gx).trans (show _ = some (.int .i64 b) from rfl)
    have x1 := (blk_cell (j := 1) gx).trans (show _ = some (.int .i64 m) from rfl)
    have x2 := (blk_cell (j := 2) gx).trans (show _ = some (.int .i64 c) from rfl)
    have x3 := (blk_cell (j := 3) gx).trans (show _ = some (.int .i64 a) from rfl)
    have r0 := (blk_cell (j := 0) gr).trans (show _ = some (.int .i64 (p1 : Int)) from rfl)
    have r1 := (blk_cell (j := 1) gr).trans (show _ = some (.int .i64 (p2 : Int)) from rfl)
    have Gx := Lib.hid gx
    have Gr := Lib.hid gr
    clear gx gr
    go_wp2_with fail
    refine (H2.out (w2.alloc (.cells #[.int .i64 (p1 : Int), .int .i64 (p2 : Int)] 31))).mono ?_
    rintro e w4 ⟨rfl, hb⟩
    have B4 := Lib.hid (B3.out.trans (hb.mono B3.out.size))
    have gx := (hb.block _ (lt_of_block Gx.out)).trans Gx.out
    have gr := (hb.block _ (lt_of_block Gr.out)).trans Gr.out
    clear x0 x1 x2 x3 r0 r1
    have x0 := (blk_cell (j := 0) gx).trans (show _ = some (.int .i64 b) from rfl)
    have x1 := (blk_cell (j := 1) gx).trans (show _ = some (.int .i64 m) from rfl)
    have x2 := (blk_cell (j := 2) gx).trans (show _ = some (.int .i64 c) from rfl)
    have x3 := (blk_cell (j := 3) gx).trans (show _ = some (.int .i64 a) from rfl)
    have r0 := (blk_cell (j := 0) gr).trans (show _ = some (.int .i64 (p1 : Int)) from rfl)
    have r1 := (blk_cell (j := 1) gr).trans (show _ = some (.int .i64 (p2 : Int)) from rfl)
    have Gx := Lib.hid gx
    have Gr := Lib.hid gr
    clear hb gx gr
    have B5 := Lib.hid (B4.out.alloc B4.out.size (.cells #[.int .i64 (p1 : Int), .int .i64 (p2 : Int)] 31))
    have gx := blk_up (o := .cells #[.int .i64 (p1 : Int), .int .i64 (p2 : Int)] 31) Gx.out
    have gr := blk_up (o := .cells #[.int .i64 (p1 : Int), .int .i64 (p2 : Int)] 31) Gr.out
    have gs := heap_alloc_new w4 (.cells #[.int .i64 (p1 : Int), .int .i64 (p2 : Int)] 31)
    clear x0 x1 x2 x3 r0 r1
    have x0 := (blk_cell (j := 0) gx).trans (show _ = some (.int .i64 b) from rfl)
    have x1 := (blk_cell (j := 1) gx).trans (show _ = some (.int .i64 m) from rfl)
    have x2 := (blk_cell (j := 2) gx).trans (show _ = some (.int .i64 c) from rfl)
    have x3 := (blk_cell (j := 3) gx).trans (show _ = some (.int .i64 a) from rfl)
    have r0 := (blk_cell (j := 0) gr).trans (show _ = some (.int .i64 (p1 : Int)) from rfl)
    have r1 := (blk_cell (j := 1) gr).trans (show _ = some (.int .i64 (p2 : Int)) from rfl)
    have s0 := (blk_cell (j := 0) gs).trans (show _ = some (.int .i64 (p1 : Int)) from rfl)
    have s1 := (blk_cell (j := 1) gs).trans (show _ = some (.int .i64 (p2 : Int)) from rfl)
    have Gx := Lib.hid gx
    have Gr := Lib.hid gr
    have Gs := Lib.hid gs
    clear gx gr gs
    go_wp2_with fail
    refine (HKN.out (w4.alloc (.cells #[.int .i64 (p1 : Int), .int .i64 (p2 : Int)] 31))).mono ?_
    rintro e w6 ⟨rfl, hb⟩
    have B6 := Lib.hid (B5.out.trans (hb.mono B5.out.size))
    have gx := (hb.block _ (lt_of_block Gx.out)).trans Gx.out
    have gr := (hb.block _ (lt_of_block Gr.out)).trans Gr.out
    have gs := (hb.block _ (lt_of_block Gs.out)).trans Gs.out
    clear x0 x1 x2 x3 r0 r1 s0 s1
    have x0 := (blk_cell (j := 0) gx).trans (show _ = some (.int .i64 b) from rfl)
    have x1 := (blk_cell (j := 1) gx).trans (show _ = some (.int .i64 m) from rfl)
    have x2 := (blk_cell (j := 2) gx).trans (show _ = some (.int .i64 c) from rfl)
    have x3 := (blk_cell (j := 3) gx).trans (show _ = some (.int .i64 a) from rfl)
    have r0 := (blk_cell (j := 0) gr).trans (show _ = some (.int .i64 (p1 : Int)) from rfl)
    have r1 := (blk_cell (j := 1) gr).trans (show _ = some (.int .i64 (p2 : Int)) from rfl)
    have s0 := (blk_cell (j := 0) gs).trans (show _ = some (.int .i64 (p1 : Int)) from rfl)
    have s1 := (blk_cell (j := 1) gs).trans (show _ = some (.int .i64 (p2 : Int)) from rfl)
    have Gx := Lib.hid gx
    have Gr := Lib.hid gr
    have Gs := Lib.hid gs
    clear hb gx gr gs
    go_wp2_with fail
    go_ret
    exact ⟨rfl, B6.out⟩
end Go.Proofs.Ytgpghnhpbjnhkaa

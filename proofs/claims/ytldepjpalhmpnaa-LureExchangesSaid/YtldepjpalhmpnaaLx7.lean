/-
  The walk of the law LureExchanges: it returns true. Conditions: the game and the list can be read.
-/
import Derived.Test.YtldepjpalhmpnaaLx6
namespace Go.Proofs.Ytldepjpalhmpnaa
open Go.RowKit
set_option linter.unusedVariables false

set_option maxRecDepth 4000 in
set_option maxHeartbeats 6400000 in
theorem LureExchanges_walk (g : Gv) (A : Option Addr) (c : Nat) (L : List Int) (w : World) (hr : RdG w w.heap.size g) (hf : Gfit g) (hqL : Rd w w.heap.size A (ints L)) (hlL : L.length ≤ c) (hcL : c ≤ maxLen) :
    Calls Try.prog 3 #[g.v, .slice A L.length c] w fun e w' => e = .returned (.bool true) ∧ Below w.heap.size w w' := by
  obtain ⟨W, hW, p0, p1, hz, hb, hr1⟩ := box_game w g 25 hr
  have B0 := Lib.hid hb
  have RG0 := Lib.hid hr1
  have HLg := Lib.hid (Large_any g W hr1 hf)
  have L_0 := Lib.hid (hqL.up hb)
  have hmL : L.length ≤ 9223372036854775807 := by unfold maxLen at hcL; omega
  clear hr hb hr1 hqL hlL hcL
  cases hbl : largeB g
  · obtain ⟨n100, r100, rr100⟩ := large_fit hbl
    rw [hbl] at HLg
    by_cases hlongL : 100 < L.length
    · have eL : decide ((100 : Int) < (L.length : Int)) = true := by rw [decide_eq_true_eq]; omega
      clear hlongL n100 r100 rr100
      clear hf hbl
      unfold Gv.v at HLg ⊢
      obtain ⟨A0, c0, own, A1, c1, rs⟩ := g
      simp only at hW p0 p1 HLg ⊢
      go_enter Try.func3, Try.ntmps3
      go_wp2_with fail
      refine (HLg.out).mono ?_
      rintro e w1 ⟨rfl, hb⟩
      have B1 := Lib.hid (B0.out.trans (hb.mono B0.out.size))
      clear hb
      go_wp2_with fail
      refine (known_ok w1).mono ?_
      rintro e w2 ⟨rfl, hb⟩
      have B2 := Lib.hid (B1.out.trans (hb.mono B1.out.size))
      clear hb
      go_wp2_with fail
      go_ret
      exact ⟨rfl, B2.out⟩
    · have eL : decide ((100 : Int) < (L.length : Int)) = false := by rw [decide_eq_false_iff_not]; omega
      have h100L : L.length ≤ 100 := by omega
      clear hlongL
      have D0 := Lib.hid (show Hd W w.heap.size g.A0 g.c0 g.own g.A1 g.c1 g.rs from ⟨hz, p0, p1, RG0.out⟩)
      have C1 := Lib.hid (fun w h => rCopy_any g w h hf n100 r100 rr100)
      have C2 := Lib.hid (fun w h => rExchange_any g w h hf n100 r100 rr100)
      have C3 := Lib.hid (fun w h q => Free_any g A c L w h hf q hmL)
      have C4 := Lib.hid (fun (g1 : Gv) (w : World) (hq : g1.G = g.G) (h1 : RdG w w.heap.size g1) (h : RdG w w.heap.size g) => rSame_same g1 g w h1 h hq.symm (by rw [show g1.own = g.own from congrArg Gm.own hq]; exact n100) (by rw [show g1.rs.length = g.rs.length from by have := congrArg (fun x => x.mv.length) hq; simpa [Gv.G] using this]; exact r100) (fun r hr => by
        have h2 : r.l ∈ g.G.mv := by rw [← hq]; exact List.mem_map.2 ⟨r, hr, rfl⟩
        obtain ⟨r', h3, h4⟩ := List.mem_map.1 h2
        rw [← h4]; exact rr100 r' h3))
      have HS := Lib.hid (exL_small (G := g.G) n100 (by show (g.rs.map (·.l)).length ≤ 100; rw [List.length_map]; exact r100) (fun x hx => by obtain ⟨r', h3, h4⟩ := List.mem_map.1 hx; rw [← h4]; exact rr100 r' h3))
      have HRR := Lib.hid (show ∀ x ∈ g.G.mv, x.length ≤ 100 from fun x hx => by obtain ⟨r', h3, h4⟩ := List.mem_map.1 hx; rw [← h4]; exact rr100 r' h3)
      have HGW := Lib.hid (fun h => good_way (G := g.G) (L := L) h)
      have hF16 := fre_le g.G L
      have HGn := Lib.hid (show g.G.own.length = g.own.length from rfl)
      clear hf hbl r100 rr100
      generalize freL g.G L = F at *
      generalize hGG : g.G = G at *
      clear hGG
      obtain ⟨V, hV⟩ : ∃ V, askE G L = V := ⟨_, rfl⟩
      obtain ⟨E, hE⟩ : ∃ E, gE G = E := ⟨_, rfl⟩
      rw [hV] at C3 HGW
      rw [hE] at C2 HGW
      have HVV := Lib.hid hV
      have HEE := Lib.hid hE
      clear hV hE
      unfold Gv.v at HLg C1 C2 C3 C4 ⊢
      obtain ⟨A0, c0, own, A1, c1, rs⟩ := g
      simp only at hW p0 p1 HLg C1 C2 C3 C4 D0 RG0 HGn n100 ⊢
      clear hz
      have hb3 : (E != E) = false := by simp
      go_enter Try.func3, Try.ntmps3
      go_wp2_with fail
      refine (HLg.out).mono ?_
      rintro e w1 ⟨rfl, hb⟩
      clear p0 p1 hW
      have B1 := Lib.hid (B0.out.trans (hb.mono B0.out.size))
      have D1 := Lib.hid (D0.out.up hb)
      have L_1 := Lib.hid (L_0.out.up hb)
      clear D0 L_0 hb
      have D10 : w1.cell? ⟨w.heap.size, 0, none⟩ = some (.slice A0 own.length c0) := D1.out.k0
      have D11 : w1.cell? ⟨w.heap.size, 1, none⟩ = some (.slice A1 rs.length c1) := D1.out.k1
      clear RG0
      go_wp2_with fail
      refine (C1.out w1 D1.out.r).mono ?_
      rintro e w2 ⟨g1, rfl, hG1, hf1, hr1, ha1, hb⟩
      obtain ⟨a0, k0, own1, a1, k1, rs1⟩ := g1
      have G1 := Lib.hid hG1
      have F1 := Lib.hid hf1
      have R1 := Lib.hid hr1
      clear hG1 hf1 hr1 ha1
      have B2 := Lib.hid (B1.out.trans (hb.mono B1.out.size))
      have D2 := Lib.hid (D1.out.up hb)
      have L_2 := Lib.hid (L_1.out.up hb)
      clear D1 L_1 D10 D11 hb
      have D20 : w2.cell? ⟨w.heap.size, 0, none⟩ = some (.slice A0 own.length c0) := D2.out.k0
      have D21 : w2.cell? ⟨w.heap.size, 1, none⟩ = some (.slice A1 rs.length c1) := D2.out.k1
      unfold Gv.v
      simp only
      obtain ⟨W3, hW3, x3, s3, hb⟩ := one_blk w2 #[.slice a0 own1.length k0, .slice a1 rs1.length k1] 25
      have P3 := Lib.hid (Hd.box R1.out x3 hb)
      clear x3 s3 R1
      have B3 := Lib.hid (B2.out.trans (hb.mono B2.out.size))
      have D3 := Lib.hid (D2.out.up hb)
      have L_3 := Lib.hid (L_2.out.up hb)
      clear D2 L_2 D20 D21 hb
      have D30 : W3.cell? ⟨w.heap.size, 0, none⟩ = some (.slice A0 own.length c0) := D3.out.k0
      have D31 : W3.cell? ⟨w.heap.size, 1, none⟩ = some (.slice A1 rs.length c1) := D3.out.k1
      have P30 : W3.cell? ⟨w2.heap.size, 0, none⟩ = some (.slice a0 own1.length k0) := P3.out.k0
      have P31 : W3.cell? ⟨w2.heap.size, 1, none⟩ = some (.slice a1 rs1.length k1) := P3.out.k1
      have PK := Lib.hid P3.out
      have DK := Lib.hid D3.out
      have BK := Lib.hid B3.out
      have CX := Lib.hid (Exchange_any ⟨a0, k0, own1, a1, k1, rs1⟩ W3 P3.out.r F1.out (fun r hr => HRR.out _ (by rw [← G1.out]; exact List.mem_map.2 ⟨r, hr, rfl⟩)))
      rw [G1.out, HEE.out] at CX
      unfold Gv.v at CX
      simp only at CX
      go_wp2_with fail
      clear hW3
      refine CX.out.mono ?_
      rintro e w4 ⟨g2, rfl, hG2, hf2, hr2, ha2, hb⟩
      clear CX
      obtain ⟨b0, l0, own2, b1, l1, rs2⟩ := g2
      have G2 := Lib.hid hG2
      have F2 := Lib.hid hf2
      have R2 := Lib.hid hr2
      have AP2 := Lib.hid ha2
      clear hG2 hf2 hr2 ha2
      have HU := Lib.hid (show (∀ ad, b0 = some ad → ad.block < w4.heap.size) ∧ ∀ r ∈ rs2, ∀ ad, r.A = some ad → ad.block < w4.heap.size from ⟨fun ad ha => (AP2.out.f0 ad ha).2.lt, fun r hr ad ha => (AP2.out.fr r hr ad ha).2.lt⟩)
      have Z3 := Lib.hid (show W3.heap.size ≤ w4.heap.size from hb.size)
      have BX4 := Lib.hid hb
      have B4 := Lib.hid (B3.out.trans (hb.mono B3.out.size))
      have D4 := Lib.hid (D3.out.up hb)
      have P4 := Lib.hid (P3.out.up hb)
      have L_4 := Lib.hid (L_3.out.up hb)
      clear D3 P3 L_3 D30 D31 P30 P31 hb
      have D40 : w4.cell? ⟨w.heap.size, 0, none⟩ = some (.slice A0 own.length c0) := D4.out.k0
      have D41 : w4.cell? ⟨w.heap.size, 1, none⟩ = some (.slice A1 rs.length c1) := D4.out.k1
      have P40 : w4.cell? ⟨w2.heap.size, 0, none⟩ = some (.slice a0 own1.length k0) := P4.out.k0
      have P41 : w4.cell? ⟨w2.heap.size, 1, none⟩ = some (.slice a1 rs1.length k1) := P4.out.k1
      unfold Gv.v
      simp only
      obtain ⟨W5, hW5, x5, s5, hb⟩ := one_blk w4 #[.slice b0 own2.length l0, .slice b1 rs2.length l1] 25
      have Q5 := Lib.hid (Hd.box R2.out x5 hb)
      have AP5 := Lib.hid (AP2.out.up hb)
      have BX5 := Lib.hid (BX4.out.trans (hb.mono BX4.out.size))
      clear x5 s5 R2 AP2 BX4
      have B5 := Lib.hid (B4.out.trans (hb.mono B4.out.size))
      have D5 := Lib.hid (D4.out.up hb)
      have P5 := Lib.hid (P4.out.up hb)
      have L_5 := Lib.hid (L_4.out.up hb)
      clear D4 P4 L_4 D40 D41 P40 P41 hb
      have D50 : W5.cell? ⟨w.heap.size, 0, none⟩ = some (.slice A0 own.length c0) := D5.out.k0
      have D51 : W5.cell? ⟨w.heap.size, 1, none⟩ = some (.slice A1 rs.length c1) := D5.out.k1
      have P50 : W5.cell? ⟨w2.heap.size, 0, none⟩ = some (.slice a0 own1.length k0) := P5.out.k0
      have P51 : W5.cell? ⟨w2.heap.size, 1, none⟩ = some (.slice a1 rs1.length k1) := P5.out.k1
      have Q50 : W5.cell? ⟨w4.heap.size, 0, none⟩ = some (.slice b0 own2.length l0) := Q5.out.k0
      have Q51 : W5.cell? ⟨w4.heap.size, 1, none⟩ = some (.slice b1 rs2.length l1) := Q5.out.k1
      go_wp2_with fail
      clear hW5
      refine (C2.out W5 D5.out.r).mono ?_
      rintro e w6 ⟨g3, rfl, hG3, hf3, hr3, ha3, hb⟩
      obtain ⟨d0, m0, own3, d1, m1, rs3⟩ := g3
      have G3 := Lib.hid hG3
      have R3 := Lib.hid hr3
      clear hG3 hf3 hr3 ha3
      have AP6 := Lib.hid (AP5.out.up hb)
      have BX6 := Lib.hid (BX5.out.trans (hb.mono BX5.out.size))
      clear AP5 BX5
      have B6 := Lib.hid (B5.out.trans (hb.mono B5.out.size))
      have D6 := Lib.hid (D5.out.up hb)
      have P6 := Lib.hid (P5.out.up hb)
      have Q6 := Lib.hid (Q5.out.up hb)
      have L_6 := Lib.hid (L_5.out.up hb)
      clear D5 P5 Q5 L_5 D50 D51 P50 P51 Q50 Q51 hb
      have D60 : w6.cell? ⟨w.heap.size, 0, none⟩ = some (.slice A0 own.length c0) := D6.out.k0
      have D61 : w6.cell? ⟨w.heap.size, 1, none⟩ = some (.slice A1 rs.length c1) := D6.out.k1
      have P60 : w6.cell? ⟨w2.heap.size, 0, none⟩ = some (.slice a0 own1.length k0) := P6.out.k0
      have P61 : w6.cell? ⟨w2.heap.size, 1, none⟩ = some (.slice a1 rs1.length k1) := P6.out.k1
      have Q60 : w6.cell? ⟨w4.heap.size, 0, none⟩ = some (.slice b0 own2.length l0) := Q6.out.k0
      have Q61 : w6.cell? ⟨w4.heap.size, 1, none⟩ = some (.slice b1 rs2.length l1) := Q6.out.k1
      unfold Gv.v
      simp only
      obtain ⟨W7, hW7, x7, s7, hb⟩ := one_blk w6 #[.slice d0 own3.length m0, .slice d1 rs3.length m1] 25
      have T7 := Lib.hid (Hd.box R3.out x7 hb)
      clear x7 s7 R3
      have AP7 := Lib.hid (AP6.out.up hb)
      have BX7 := Lib.hid (BX6.out.trans (hb.mono BX6.out.size))
      clear AP6 BX6
      have B7 := Lib.hid (B6.out.trans (hb.mono B6.out.size))
      have D7 := Lib.hid (D6.out.up hb)
      have P7 := Lib.hid (P6.out.up hb)
      have Q7 := Lib.hid (Q6.out.up hb)
      have L_7 := Lib.hid (L_6.out.up hb)
      clear D6 P6 Q6 L_6 D60 D61 P60 P61 Q60 Q61 hb
      have D70 : W7.cell? ⟨w.heap.size, 0, none⟩ = some (.slice A0 own.length c0) := D7.out.k0
      have D71 : W7.cell? ⟨w.heap.size, 1, none⟩ = some (.slice A1 rs.length c1) := D7.out.k1
      have P70 : W7.cell? ⟨w2.heap.size, 0, none⟩ = some (.slice a0 own1.length k0) := P7.out.k0
      have P71 : W7.cell? ⟨w2.heap.size, 1, none⟩ = some (.slice a1 rs1.length k1) := P7.out.k1
      have Q70 : W7.cell? ⟨w4.heap.size, 0, none⟩ = some (.slice b0 own2.length l0) := Q7.out.k0
      have Q71 : W7.cell? ⟨w4.heap.size, 1, none⟩ = some (.slice b1 rs2.length l1) := Q7.out.k1
      have T70 : W7.cell? ⟨w6.heap.size, 0, none⟩ = some (.slice d0 own3.length m0) := T7.out.k0
      have T71 : W7.cell? ⟨w6.heap.size, 1, none⟩ = some (.slice d1 rs3.length m1) := T7.out.k1
      have HQ := Lib.hid (rSame_same ⟨b0, l0, own2, b1, l1, rs2⟩ ⟨d0, m0, own3, d1, m1, rs3⟩ W7 Q7.out.r T7.out.r (by rw [G2.out, G3.out]) (by have := HS.out.1; rw [← G2.out] at this; exact this) (by have := HS.out.2.1; rw [← G2.out] at this; simpa [Gv.G] using this) (fun r hr => HS.out.2.2 _ (by rw [← G2.out]; exact List.mem_map.2 ⟨r, hr, rfl⟩)))
      unfold Gv.v at HQ
      simp only at HQ
      go_wp2_with fail
      clear hW7
      refine HQ.out.mono ?_
      rintro e w8 ⟨rfl, hb⟩
      clear HQ T7 T70 T71
      have AP8 := Lib.hid (AP7.out.up hb)
      have BX8 := Lib.hid (BX7.out.trans (hb.mono BX7.out.size))
      clear AP7 BX7
      have B8 := Lib.hid (B7.out.trans (hb.mono B7.out.size))
      have D8 := Lib.hid (D7.out.up hb)
      have P8 := Lib.hid (P7.out.up hb)
      have Q8 := Lib.hid (Q7.out.up hb)
      have L_8 := Lib.hid (L_7.out.up hb)
      clear D7 P7 Q7 L_7 D70 D71 P70 P71 Q70 Q71 hb
      have D80 : w8.cell? ⟨w.heap.size, 0, none⟩ = some (.slice A0 own.length c0) := D8.out.k0
      have D81 : w8.cell? ⟨w.heap.size, 1, none⟩ = some (.slice A1 rs.length c1) := D8.out.k1
      have P80 : w8.cell? ⟨w2.heap.size, 0, none⟩ = some (.slice a0 own1.length k0) := P8.out.k0
      have P81 : w8.cell? ⟨w2.heap.size, 1, none⟩ = some (.slice a1 rs1.length k1) := P8.out.k1
      have Q80 : w8.cell? ⟨w4.heap.size, 0, none⟩ = some (.slice b0 own2.length l0) := Q8.out.k0
      have Q81 : w8.cell? ⟨w4.heap.size, 1, none⟩ = some (.slice b1 rs2.length l1) := Q8.out.k1
      go_wp2_with fail
      refine (C3.out w8 D8.out.r L_8.out).mono ?_
      rintro e w9 ⟨A9, c9, rfl, hc9, hfr9, hr9, hb⟩
      have F_9 := Lib.hid hr9
      clear hfr9 hr9
      have AP9 := Lib.hid (AP8.out.up hb)
      have BX9 := Lib.hid (BX8.out.trans (hb.mono BX8.out.size))
      clear AP8 BX8
      have B9 := Lib.hid (B8.out.trans (hb.mono B8.out.size))
      have D9 := Lib.hid (D8.out.up hb)
      have P9 := Lib.hid (P8.out.up hb)
      have Q9 := Lib.hid (Q8.out.up hb)
      have L_9 := Lib.hid (L_8.out.up hb)
      clear D8 P8 Q8 L_8 D80 D81 P80 P81 Q80 Q81 hb
      have D90 : w9.cell? ⟨w.heap.size, 0, none⟩ = some (.slice A0 own.length c0) := D9.out.k0
      have D91 : w9.cell? ⟨w.heap.size, 1, none⟩ = some (.slice A1 rs.length c1) := D9.out.k1
      have P90 : w9.cell? ⟨w2.heap.size, 0, none⟩ = some (.slice a0 own1.length k0) := P9.out.k0
      have P91 : w9.cell? ⟨w2.heap.size, 1, none⟩ = some (.slice a1 rs1.length k1) := P9.out.k1
      have Q90 : w9.cell? ⟨w4.heap.size, 0, none⟩ = some (.slice b0 own2.length l0) := Q9.out.k0
      have Q91 : w9.cell? ⟨w4.heap.size, 1, none⟩ = some (.slice b1 rs2.length l1) := Q9.out.k1
      by_cases hV : V = 0
      · obtain ⟨hE0, hkep, hask, hn16, hrows, hxo, hxm⟩ := HGW.out hV
        rw [HGn.out] at hkep hask hn16 hxo hxm
        have HKE := Lib.hid hkep
        have HAS := Lib.hid hask
        have HRW := Lib.hid hrows
        have HL2 := Lib.hid (show own2.length = rs2.length by have h1 := hxo; have h2 := hxm; rw [← G2.out] at h1 h2; have h3 : (rs2.map (·.l)).length = own.length := h2; rw [List.length_map] at h3; have h4 : own2.length = own.length := h1; omega)
        clear hkep hask hrows hxo hxm
        have e1 : (E != 0) = false := by simp [hE0]
        have e2 : (V != 0) = false := by simp [hV]
        clear hV hE0
        go_wp2_with fail
        go_loopw [12, 13] (fun v i wr => ∃ (k : Nat) (A8 : Option Addr) (c8 : Nat), k ≤ own.length ∧ i = .int .i64 k ∧ v = .slice A8 (othL L k).length c8 ∧ wr.ownsRow w9.heap.size 3 1 v (othL L k).length (ints (othL L k)) ∧ Below w9.heap.size w9 wr) (fun _ i _ => own.length - (intOf i).toNat)
        case atStart => exact ⟨0, none, 0, by omega, rfl, rfl, World.ownsRow_nil _ _ _ _, Below.refl _ _⟩
        case round =>
          obtain ⟨k, A8, c8, hk, rfl, rfl, ho, hb⟩ := hrel
          have O := Lib.hid ho
          have BW := Lib.hid hb
          clear ho
          have AP10 := Lib.hid (AP9.out.up hb)
          have BX10 := Lib.hid (BX9.out.trans (hb.mono BX9.out.size))
          clear AP9 BX9
          have B10 := Lib.hid (B9.out.trans (hb.mono B9.out.size))
          have D10 := Lib.hid (D9.out.up hb)
          have P10 := Lib.hid (P9.out.up hb)
          have Q10 := Lib.hid (Q9.out.up hb)
          have L_10 := Lib.hid (L_9.out.up hb)
          have F_10 := Lib.hid (F_9.out.up hb)
          clear D9 P9 Q9 L_9 F_9 D90 D91 P90 P91 Q90 Q91 hb
          have D100 : wr.cell? ⟨w.heap.size, 0, none⟩ = some (.slice A0 own.length c0) := D10.out.k0
          have D101 : wr.cell? ⟨w.heap.size, 1, none⟩ = some (.slice A1 rs.length c1) := D10.out.k1
          have P100 : wr.cell? ⟨w2.heap.size, 0, none⟩ = some (.slice a0 own1.length k0) := P10.out.k0
          have P101 : wr.cell? ⟨w2.heap.size, 1, none⟩ = some (.slice a1 rs1.length k1) := P10.out.k1
          have Q100 : wr.cell? ⟨w4.heap.size, 0, none⟩ = some (.slice b0 own2.length l0) := Q10.out.k0
          have Q101 : wr.cell? ⟨w4.heap.size, 1, none⟩ = some (.slice b1 rs2.length l1) := Q10.out.k1
          by_cases hlt : k < own.length
          · have HQ := Lib.hid (Has_any A c L (k : Int) wr L_10.out hmL)
            have hl8 := oth_le L k
            by_cases hq : decide ((k : Int) ∈ L) = true
            · have HS' := Lib.hid (oth_no hq)
              rw [hq] at HQ
              clear hq
              generalize othL L k = Y at *
              go_wp2_with fail
              refine (HQ.out).mono ?_
              rintro e w' ⟨rfl, rfl⟩
              go_wp2_with fail
              go_roundw
              case rel => exact ⟨k + 1, A8, c8, by omega, by go_num, by rw [HS'.out], by rw [HS'.out]; exact O.out, BW.out⟩
              case measure => simp [intOf]; omega
            · have hq2 : decide ((k : Int) ∈ L) = false := by simpa using hq
              have HS' := Lib.hid (oth_yes hq2)
              rw [hq2] at HQ
              clear hq hq2
              generalize othL L k = Y at *
              go_wp2_with fail
              refine (HQ.out).mono ?_
              rintro e w' ⟨rfl, rfl⟩
              go_wp2_with (at_builtin; refine app Try.eInt rfl _ _ rfl rfl (O.out.alloc _) (BW.out.alloc BW.out.size _) (size_alloc' BW.out.size _) rfl (Rd.one wr (.int .i64 k) 3 (Nat.lt_succ_self _)) (by simp) (ints_one [(k : Int)]) (Y.length + 1) rfl (by omega) ?_; intro A4 c4 w4' o4 b4 _ _; have O4 := Lib.hid o4; have B4 := Lib.hid b4; clear o4 b4)
              go_roundw
              case rel => exact ⟨k + 1, A4, c4, by omega, by go_num, by rw [HS'.out, List.length_append]; rfl, by rw [HS'.out, ints_append, List.length_append]; exact O4.out, B4.out⟩
              case measure => simp [intOf]; omega
          · have HKX : k = own.length := by omega
            subst HKX
            have CK := Lib.hid (Keeps_any ⟨b0, l0, own2, b1, l1, rs2⟩ A8 c8 (othL L own.length) wr Q10.out.r F2.out (Rd.of_own O.out) (by have := oth_le L own.length; omega))
            rw [G2.out, HKE.out, HAS.out] at CK
            unfold Gv.v at CK
            simp only at CK
            clear hlt hk O BW
            generalize othL L own.length = Y at *
            go_wp2_with fail
            refine CK.out.mono ?_
            rintro e w12 ⟨A12, c12, rfl, hc12, hfr12, hr12, hb⟩
            have K_11 := Lib.hid hr12
            clear hc12 hfr12 hr12 CK
            have AP11 := Lib.hid (AP10.out.up hb)
            have BX11 := Lib.hid (BX10.out.trans (hb.mono BX10.out.size))
            clear AP10 BX10
            have B11 := Lib.hid (B10.out.trans (hb.mono B10.out.size))
            have D11 := Lib.hid (D10.out.up hb)
            have P11 := Lib.hid (P10.out.up hb)
            have Q11 := Lib.hid (Q10.out.up hb)
            have L_11 := Lib.hid (L_10.out.up hb)
            have F_11 := Lib.hid (F_10.out.up hb)
            clear D10 P10 Q10 L_10 F_10 D100 D101 P100 P101 Q100 Q101 hb
            have D110 : w12.cell? ⟨w.heap.size, 0, none⟩ = some (.slice A0 own.length c0) := D11.out.k0
            have D111 : w12.cell? ⟨w.heap.size, 1, none⟩ = some (.slice A1 rs.length c1) := D11.out.k1
            have P110 : w12.cell? ⟨w2.heap.size, 0, none⟩ = some (.slice a0 own1.length k0) := P11.out.k0
            have P111 : w12.cell? ⟨w2.heap.size, 1, none⟩ = some (.slice a1 rs1.length k1) := P11.out.k1
            have Q110 : w12.cell? ⟨w4.heap.size, 0, none⟩ = some (.slice b0 own2.length l0) := Q11.out.k0
            have Q111 : w12.cell? ⟨w4.heap.size, 1, none⟩ = some (.slice b1 rs2.length l1) := Q11.out.k1
            go_wp2_with fail
            refine (drawn (SameInts_same A12 A9 c12 c9 F _ _ w12 rfl rfl K_11.out F_11.out (by omega))).mono ?_
            rintro e w13 ⟨rfl, hb⟩
            have AP12 := Lib.hid (AP11.out.up hb)
            have BX12 := Lib.hid (BX11.out.trans (hb.mono BX11.out.size))
            clear AP11 BX11
            have B12 := Lib.hid (B11.out.trans (hb.mono B11.out.size))
            have D12 := Lib.hid (D11.out.up hb)
            have P12 := Lib.hid (P11.out.up hb)
            have Q12 := Lib.hid (Q11.out.up hb)
            clear D11 P11 Q11 D110 D111 P110 P111 Q110 Q111 hb
            have D120 : w13.cell? ⟨w.heap.size, 0, none⟩ = some (.slice A0 own.length c0) := D12.out.k0
            have D121 : w13.cell? ⟨w.heap.size, 1, none⟩ = some (.slice A1 rs.length c1) := D12.out.k1
            have P120 : w13.cell? ⟨w2.heap.size, 0, none⟩ = some (.slice a0 own1.length k0) := P12.out.k0
            have P121 : w13.cell? ⟨w2.heap.size, 1, none⟩ = some (.slice a1 rs1.length k1) := P12.out.k1
            have Q120 : w13.cell? ⟨w4.heap.size, 0, none⟩ = some (.slice b0 own2.length l0) := Q12.out.k0
            have Q121 : w13.cell? ⟨w4.heap.size, 1, none⟩ = some (.slice b1 rs2.length l1) := Q12.out.k1
            clear D120 D121 D12 P120 P121 P12 L_11 F_11 K_11
            have OP := Lib.hid (Opn.of Q12.out.r AP12.out HU.out.1 HU.out.2)
            have HQ8 := Lib.hid (show w4.heap.size < w13.heap.size from Q12.out.lt)
            go_wp2_with fail
            go_loopw [16] (fun i wr => ∃ (k : Nat), k ≤ rs2.length ∧ i = .int .i64 k ∧ Opn W3 wr w4.heap.size ⟨b0, l0, own2, b1, l1, rs2⟩ ∧ Below W3.heap.size W3 wr ∧ wr.cell? ⟨w4.heap.size, 0, none⟩ = some (.slice b0 own2.length l0) ∧ wr.cell? ⟨w4.heap.size, 1, none⟩ = some (.slice b1 rs2.length l1)) (fun i _ => rs2.length - (intOf i).toNat)
            case atStart => exact ⟨0, by omega, rfl, OP.out, BX12.out, Q12.out.k0, Q12.out.k1⟩
            case round =>
              obtain ⟨k, hk, rfl, hop, hbl, hq0, hq1⟩ := hrel
              have OPr := Lib.hid hop
              have BLr := Lib.hid hbl
              clear Q120 Q121 hop hbl
              by_cases hlt : k < rs2.length
              · have hlt2 : k < own2.length := by have := HL2.out; omega
                have HLT := Lib.hid hlt
                have hk100 : k < 100 := by have h2 := HS.out.2.1; rw [← G2.out] at h2; have h3 : (rs2.map (·.l)).length ≤ 100 := h2; rw [List.length_map] at h3; omega
                obtain ⟨b, o, v, hb0, hlo, hup, hsf, hce⟩ := OPr.out.o k hlt2
                have hb0' : b0 = some ⟨b, o, none⟩ := hb0
                subst hb0'
                have fr1 := hsf.free (o + k)
                have hne1 : w4.heap.size ≠ b := Nat.ne_of_gt hup
                obtain ⟨wa, hwa⟩ : ∃ wa, wr.setCell ⟨b, o + k, none⟩ (.int .i64 7) = wa := ⟨_, rfl⟩
                have OA := Lib.hid (OPr.out.set (b := b) (fun ad ha => OPr.out.x0 _ _ rfl ha) (o + k) (.int .i64 7))
                have BA := Lib.hid (Below.setCell (p := ⟨b, o + k, none⟩) BLr.out hlo (.int .i64 7))
                have qa0 := (World.cell?_of_block (a := ⟨w4.heap.size, 0, none⟩) (heap_set_off (w := wr) hne1 (o + k) (.int .i64 7))).trans hq0
                have qa1 := (World.cell?_of_block (a := ⟨w4.heap.size, 1, none⟩) (heap_set_off (w := wr) hne1 (o + k) (.int .i64 7))).trans hq1
                rw [hwa] at OA BA qa0 qa1
                obtain ⟨bb, oo, hb1, _, hcm⟩ := OA.out.m.at_ (k := k) (u := (rs2[k]).v) (by rw [List.getElem?_map]; show (rs2[k]?).map Rw.v = _; rw [List.getElem?_eq_getElem hlt]; rfl)
                have hb1' : b1 = some ⟨bb, oo, none⟩ := hb1
                subst hb1'
                have hmem : rs2[k] ∈ rs2 := List.getElem_mem hlt
                have hpos : 0 < (rs2[k]).l.length := HRW.out _ (by rw [← G2.out]; exact List.mem_map.2 ⟨_, hmem, rfl⟩)
                generalize rs2[k] = rk at *
                obtain ⟨A', c', l⟩ := rk
                obtain ⟨b', o', v', ha', hlo', hup', hsf', hce'⟩ := OA.out.r _ hmem hpos
                have ha2 : A' = some ⟨b', o', none⟩ := ha'
                subst ha2
                have hcm2 : wa.cell? ⟨bb, oo + k, none⟩ = some (.slice (some ⟨b', o', none⟩) l.length c') := hcm
                have hl0 : 0 < l.length := hpos
                have fr2 := hsf'.free o'
                have hne2 : w4.heap.size ≠ b' := Nat.ne_of_gt hup'
                have OB := Lib.hid (OA.out.set (b := b') (fun ad ha => OA.out.xr _ hmem _ _ rfl ha) o' (.int .i64 (-1)))
                have BB := Lib.hid (Below.setCell (p := ⟨b', o', none⟩) BA.out hlo' (.int .i64 (-1)))
                have qb0 := (World.cell?_of_block (a := ⟨w4.heap.size, 0, none⟩) (heap_set_off (w := wa) hne2 o' (.int .i64 (-1)))).trans qa0
                have qb1 := (World.cell?_of_block (a := ⟨w4.heap.size, 1, none⟩) (heap_set_off (w := wa) hne2 o' (.int .i64 (-1)))).trans qa1
                clear hb0 hb1 ha' hcm hpos hmem hlo hup hsf hlo' hup' hsf' hne1 hne2
                go_wp2_with fail
                go_roundw
                case rel => exact ⟨k + 1, HLT.out, by go_num, OB.out, BB.out, qb0, qb1⟩
                case measure => have := HLT.out; simp [intOf]; omega
              · have b3 : decide ((k : Int) < (rs2.length : Int)) = false := by rw [decide_eq_false_iff_not]; omega
                have b4 : decide (k < rs2.length) = false := by rw [decide_eq_false_iff_not]; exact hlt
                have PZ := Lib.hid (PK.out.up BLr.out)
                have DZ := Lib.hid (DK.out.up BLr.out)
                have BZ := Lib.hid (BK.out.trans (BLr.out.mono BK.out.size))
                have PZ0 : wr.cell? ⟨w2.heap.size, 0, none⟩ = some (.slice a0 own1.length k0) := PZ.out.k0
                have PZ1 : wr.cell? ⟨w2.heap.size, 1, none⟩ = some (.slice a1 rs1.length k1) := PZ.out.k1
                have DZ0 : wr.cell? ⟨w.heap.size, 0, none⟩ = some (.slice A0 own.length c0) := DZ.out.k0
                have DZ1 : wr.cell? ⟨w.heap.size, 1, none⟩ = some (.slice A1 rs.length c1) := DZ.out.k1
                clear hlt hk
                go_wp2_with fail
                refine (C4.out ⟨a0, k0, own1, a1, k1, rs1⟩ wr G1.out PZ.out.r DZ.out.r).mono ?_
                rintro e w14 ⟨rfl, hb⟩
                have B14 := Lib.hid (BZ.out.trans (hb.mono BZ.out.size))
                clear hb
                go_wp2_with fail
                refine (known_ok w14).mono ?_
                rintro e w15 ⟨rfl, hb⟩
                have B15 := Lib.hid (B14.out.trans (hb.mono B14.out.size))
                clear hb
                go_wp2_with fail
                go_ret
                exact ⟨rfl, B15.out⟩
      · by_cases hE : E = 0
        · have e1 : (E != 0) = false := by simp [hE]
          have e2 : (V != 0) = true := by simp [hV]
          clear hV hE
          go_wp2_with fail
          refine (C4.out ⟨a0, k0, own1, a1, k1, rs1⟩ w9 G1.out P9.out.r D9.out.r).mono ?_
          rintro e w10 ⟨rfl, hb⟩
          have B10 := Lib.hid (B9.out.trans (hb.mono B9.out.size))
          clear hb
          go_wp2_with fail
          refine (known_ok w10).mono ?_
          rintro e w11 ⟨rfl, hb⟩
          have B11 := Lib.hid (B10.out.trans (hb.mono B10.out.size))
          clear hb
          go_wp2_with fail
          go_ret
          exact ⟨rfl, B11.out⟩
        · have e1 : (E != 0) = true := by simp [hE]
          clear hV hE
          go_wp2_with fail
          refine (C4.out ⟨a0, k0, own1, a1, k1, rs1⟩ w9 G1.out P9.out.r D9.out.r).mono ?_
          rintro e w10 ⟨rfl, hb⟩
          have B10 := Lib.hid (B9.out.trans (hb.mono B9.out.size))
          clear hb
          go_wp2_with fail
          refine (known_ok w10).mono ?_
          rintro e w11 ⟨rfl, hb⟩
          have B11 := Lib.hid (B10.out.trans (hb.mono B10.out.size))
          clear hb
          go_wp2_with fail
          go_ret
          exact ⟨rfl, B11.out⟩
  · rw [hbl] at HLg
    clear hmL hf hbl
    unfold Gv.v at HLg ⊢
    obtain ⟨A0, c0, own, A1, c1, rs⟩ := g
    simp only at hW p0 p1 HLg ⊢
    go_enter Try.func3, Try.ntmps3
    go_wp2_with fail
    refine (HLg.out).mono ?_
    rintro e w1 ⟨rfl, hb⟩
    have B1 := Lib.hid (B0.out.trans (hb.mono B0.out.size))
    clear hb
    go_wp2_with fail
    refine (known_ok w1).mono ?_
    rintro e w2 ⟨rfl, hb⟩
    have B2 := Lib.hid (B1.out.trans (hb.mono B1.out.size))
    clear hb
    go_wp2_with fail
    go_ret
    exact ⟨rfl, B2.out⟩
end Go.Proofs.Ytldepjpalhmpnaa

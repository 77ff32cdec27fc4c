/-
  The walk of the law TopWinds: it returns true. Conditions: that the slices can be read.
-/
import Derived.Test.YtfokmgogbjifbaaTpw
namespace Go.Proofs.Ytfokmgogbjifbaa
open Go.RowKit
set_option linter.unusedVariables false

theorem rem_by (k : Int) : (Int.tmod k 32 < 0 → Int.tmod k 32 + 32 = (byN k : Int)) ∧ (0 ≤ Int.tmod k 32 → Int.tmod k 32 = (byN k : Int)) := by
  have h := Int.tmod_eq_emod (a := k) (b := 32)
  have h3 : (byN k : Int) = k % 32 := by unfold byN; omega
  constructor
  · intro h0
    rw [h3]
    split at h <;> omega
  · intro h0
    rw [h3]
    split at h <;> omega
theorem rem_pos {x b : Int} (h : 0 ≤ x + b) : Int.tmod (x + b) 32 = (x + b) % 32 := Int.tmod_eq_emod_of_nonneg h
theorem take_turn {b : Nat} {l : List Pt} {k : Nat} {a : Pt} (h : l[k]? = some a) : ((turnL b l).take (k + 1)).flatMap Pt.cells = ((turnL b l).take k).flatMap Pt.cells ++ [.int .i64 ((a.x + (b : Int)) % 32), .int .i64 a.y] := by
  have h2 : (turnL b l)[k]? = some (turnA b a) := by unfold turnL; rw [List.getElem?_map, h]; rfl
  rw [List.take_add_one, h2, List.flatMap_append]
  rfl
theorem bdN {B : Nat} {w w' : World} (h : Below B w w') (n : Nat) : Below B w (w'.drewN n) := ⟨h.os, h.tape, h.output, h.size, h.block⟩
set_option maxHeartbeats 3200000 in
set_option maxRecDepth 4000 in
theorem TopWinds_walk (A1 A2 : Option Addr) (c1 c2 : Nat) (l : List Pt) (W : List Int) (by' : Int) (w : World) (hr1 : Rd w w.heap.size A1 (l.flatMap Pt.cells)) (hr2 : Rd w w.heap.size A2 (ints W)) (hm1 : l.length ≤ c1) (hcm1 : c1 ≤ maxLen) (hm2 : W.length ≤ c2) (hcm2 : c2 ≤ maxLen) :
    Calls Try.prog 3 #[.slice A1 l.length c1, .slice A2 W.length c2, .int .i64 by'] w fun e w' => e = .returned (.bool true) ∧ Below w.heap.size w w' := by
  have R1 := Lib.hid hr1
  have R2 := Lib.hid hr2
  clear hr1 hr2
  unfold maxLen at hcm1 hcm2
  have hn1 : l.length ≤ 9223372036854775807 := by omega
  have hn2 : W.length ≤ 9223372036854775807 := by omega
  have HX := Lib.hid (fun w => Across_any 0 16 w)
  rw [show acrV 0 16 = 16 by decide, show acrE 0 16 = 0 by decide] at HX
  cases hlong : decide (60 < l.length)
  · have HM := Lib.hid (fun w => Many_any A1 c1 l.length false w hn1 hlong)
    clear hlong
    by_cases h2 : (59 : Int) < (W.length : Int)
    · have e2 : decide ((59 : Int) < (W.length : Int)) = true := by simp; omega
      clear h2
      go_enter Try.func3, Try.ntmps3
      go_wp2_with fail
      refine (HX.out w).mono ?_
      rintro e w' ⟨rfl, rfl⟩
      go_wp2_with fail
      refine (HM.out w).mono ?_
      rintro e w' ⟨rfl, rfl⟩
      go_wp2_with fail
      go_ret
      exact ⟨rfl, Below.refl _ _⟩
    have e2 : decide ((59 : Int) < (W.length : Int)) = false := by simp; omega
    have HL := Lib.hid (fun w h => Lee_any A1 c1 l w h hn1)
    by_cases hE : pipesE l = 0
    · have HF := Lib.hid (fun w h => Fewest_any A1 c1 l w h hn1)
      have HA := Lib.hid (fun w h => Apart_any A1 c1 l w h hn1)
      have HC := Lib.hid (fun A c w h g => CheckApart_any A1 A c1 c l (apV l) w h g hn1 (by have := listB_le (apM l).testBit; rw [show apV l = listB (apM l).testBit from if_pos hE]; omega))
      rw [apart_self hE] at HC
      have HV := Lib.hid (fun A c w h g => Covers_any A1 A c1 c l (fewL l) w h g hn1 (by have := fewL_len l; omega))
      rw [(few_covers hE).1, (few_covers hE).2] at HV
      have hlee := few_lee hE
      have hfa := fun h => apart_few (l := l) h
      rw [hE] at HL HF HA
      unfold MadeF at HF
      unfold MadeIE at HA
      obtain ⟨b, hb⟩ : ∃ b, byN by' = b := ⟨_, rfl⟩
      have hrem := rem_by by'
      rw [hb] at hrem
      clear h2
      obtain ⟨K, hK⟩ : ∃ K, fewOk l = K := ⟨_, rfl⟩
      rw [hK] at HF HV hlee hfa
      clear hK
      have hlw : W.length ≤ 59 := by simp at e2; omega
      have hbl : b < 32 := by rw [← hb]; exact byN_lt by'
      have HTL := Lib.hid (fun A c w h => tLee (l := l) (b := b) hE hbl A c w h)
      have HTM := Lib.hid (fun A c w h => tApart (l := l) (b := b) hE hbl A c w h)
      have HTT := Lib.hid (fun w => tTurn (x := leeN l) (b := b) (bit32 _) hbl w)
      have HVe := Lib.hid (fun w h => Veer_any A2 c2 W w h hn2)
      have HLim := Lib.hid (veer_lim hlw)
      have HOk := Lib.hid (pipesE_zero hE).2
      have h10 := (pipesE_zero hE).1
      have hbl : b < 32 := by rw [← hb]; exact byN_lt by'
      have hLV : leeV l = (leeN l : Nat) := if_pos hE
      have HE := Lib.hid hE
      clear hb hE
      rw [hLV] at HL hlee
      clear hLV
      have hll : leeN l < 4294967296 := bit32 _
      have e6 : K = true → decide (((fewL l).length : Int) < ((apV l).length : Int)) = false ∧ decide ((fewL l).length < (apV l).length) = false := fun h => by
        have := hfa h
        exact ⟨by simp; omega, by simp; omega⟩
      clear hfa
      obtain ⟨r, hr⟩ : ∃ r, Int.tmod by' 32 = r := ⟨_, rfl⟩
      rw [hr] at hrem
      have hrl : -32 < r ∧ r < 32 := by
        have h := Int.tmod_eq_emod (a := by') (b := 32)
        rw [← hr]
        split at h <;> omega
      obtain ⟨N, hN⟩ : ∃ N, W.length = N := ⟨_, rfl⟩
      rw [hN] at HVe e2 hlw hm2 hn2 ⊢
      have HN := Lib.hid hN
      clear hN
      go_enter Try.func3, Try.ntmps3
      go_wp2_with fail
      refine (HX.out w).mono ?_
      rintro e w' ⟨rfl, rfl⟩
      go_wp2_with fail
      refine (HM.out w).mono ?_
      rintro e w' ⟨rfl, rfl⟩
      go_wp2_with fail
      refine (HL.out w R1.out).mono ?_
      rintro e w1 ⟨rfl, hb⟩
      have B1 := Lib.hid hb
      have S1 := Lib.hid ((R1.out.below hb (Nat.le_refl _)).more hb.size)
      have S2 := Lib.hid ((R2.out.below hb (Nat.le_refl _)).more hb.size)
      clear hb
      go_wp2_with fail
      refine (HF.out w1 S1.out).mono ?_
      rintro e w2 ⟨A3, c3, rfl, hc3, hr3, hb⟩
      have B2 := Lib.hid (B1.out.trans (hb.mono B1.out.size))
      have T1 := Lib.hid ((S1.out.below hb (Nat.le_refl _)).more hb.size)
      have T2 := Lib.hid ((S2.out.below hb (Nat.le_refl _)).more hb.size)
      have P2 := Lib.hid hr3
      clear hb hr3
      go_wp2_with fail
      refine (HA.out w2 T1.out).mono ?_
      rintro e w3 ⟨A4, c4, rfl, hc4, hr4, hb⟩
      have B3 := Lib.hid (B2.out.trans (hb.mono B2.out.size))
      have U1 := Lib.hid ((T1.out.below hb (Nat.le_refl _)).more hb.size)
      have U2 := Lib.hid ((T2.out.below hb (Nat.le_refl _)).more hb.size)
      have P3 := Lib.hid ((P2.out.below hb (Nat.le_refl _)).more hb.size)
      have Q3 := Lib.hid hr4
      clear hb hr4
      have HCs := Lib.hid (HC.out A4 c4)
      have HVs := Lib.hid (HV.out A3 c3)
      generalize hLA : apV l = LA at *
      generalize hLF : fewL l = LF at *
      obtain ⟨TV, hTV⟩ : ∃ TV, rotN (leeN l) b = TV := ⟨_, rfl⟩
      rw [hTV] at HTL HTT
      clear hTV
      generalize leeN l = V at *
      cases K
      all_goals
        try obtain ⟨e7, e8⟩ := e6 rfl
        clear e6
        go_wp2_with fail
        refine (HCs.out w3 U1.out Q3.out).mono ?_
        rintro e w4 ⟨rfl, hb⟩
        have B4 := Lib.hid (B3.out.trans (hb.mono B3.out.size))
        have V1 := Lib.hid ((U1.out.below hb (Nat.le_refl _)).more hb.size)
        have V2 := Lib.hid ((U2.out.below hb (Nat.le_refl _)).more hb.size)
        have P4 := Lib.hid ((P3.out.below hb (Nat.le_refl _)).more hb.size)
        clear hb
        go_wp2_with fail
        refine (HVs.out w4 V1.out P4.out).mono ?_
        rintro e w5 ⟨rfl, hb⟩
        have B5 := Lib.hid (B4.out.trans (hb.mono B4.out.size))
        have Z1 := Lib.hid ((V1.out.below hb (Nat.le_refl _)).more hb.size)
        have Z2 := Lib.hid ((V2.out.below hb (Nat.le_refl _)).more hb.size)
        clear hb
        by_cases hneg : r < 0
      all_goals
        first | have hz := hrem.1 hneg | have hz := hrem.2 (by omega)
        first | have e9 : decide (r < 0) = true := decide_eq_true hneg | have e9 : decide (r < 0) = false := decide_eq_false hneg
        have HZ := Lib.hid hz
        clear hz
        go_wp2_with fail
        try rw [HZ.out]
        clear e9 hneg
      all_goals
        clear hr hrem hrl
        go_loopw [18, 19] (fun s i wr => ∃ (k : Nat) (A9 : Option Addr) (c9 : Nat), k ≤ l.length ∧ i = .int .i64 k ∧ s = .slice A9 k c9 ∧ wr.ownsRow w5.heap.size 37 2 s k (((turnL b l).take k).flatMap Pt.cells) ∧ Below w5.heap.size w5 wr) (fun _ i _ => l.length - (intOf i).toNat)
        (case atStart => exact ⟨0, none, 0, by omega, rfl, rfl, World.ownsRow_nil _ _ _ _, Below.refl _ _⟩)
      all_goals
        obtain ⟨k, A9, c9, hk, rfl, rfl, hown, hb⟩ := hrel
        have O := Lib.hid hown
        have BW := Lib.hid hb
        clear hown hb
        by_cases hlt : k < l.length
        · obtain ⟨bb, o, a, rfl, hd, z0, z1⟩ := Z1.out.pt k hlt
          have hoka := HOk.out a (List.mem_of_getElem? hd.out)
          have hbb := World.block_lt_of_cell? w5 _ z0
          have HTk := Lib.hid (take_turn (b := b) hd.out)
          obtain ⟨x, y⟩ := a
          simp only at z0 z1 hoka HTk
          obtain ⟨P, R, hp0, hp1, hp2⟩ := turn_round hbl hoka
          have HP0 := Lib.hid hp0
          have HP1 := Lib.hid hp1
          have HP2 := Lib.hid hp2
          clear hp0 hp1 hp2
          have hx : 0 ≤ x ∧ x < 32 := by
            unfold okA at hoka
            rw [Bool.and_eq_true, pt_iff] at hoka
            exact hoka.1
          clear hoka
          have CU := Lib.hid (fun w' (h : Below w5.heap.size w5 w') => show w'.cell? ⟨bb, o + k * 2, none⟩ = some (.int .i64 x) ∧ w'.cell? ⟨bb, o + k * 2 + 1, none⟩ = some (.int .i64 y) from ⟨(h.cell (p := ⟨bb, o + k * 2, none⟩) hbb).trans z0, (h.cell (p := ⟨bb, o + k * 2 + 1, none⟩) hbb).trans z1⟩)
          clear z0 z1 hbb
          have htm := rem_pos (x := x) (b := (b : Int)) (by omega)
          obtain ⟨c0, c1'⟩ := CU.out wr BW.out
          have k0 := cell_up (o := .cells #[.int .i64 0, .int .i64 0] 37) c0
          have k1 := cell_up (o := .cells #[.int .i64 0, .int .i64 0] 37) c1'
          obtain ⟨W0, hW0, n0, n1, _, _⟩ := one_pt wr (.int .i64 0) (.int .i64 0) 37
          rw [← hW0] at n0 n1
          clear hW0
          go_wp2_with fail
          go_region
          clear c0 c1' k0 k1 n0 n1
          obtain ⟨W9, hW9, hblk, hs9, hb9⟩ := one_blk wr #[.int .i64 ((x + (b : Int)) % 32), .int .i64 y] 37
          try rw [hW9]
          have D9 := Lib.hid hblk
          have O9 := Lib.hid (own_below O.out hb9)
          have B9 := Lib.hid (BW.out.trans (hb9.mono BW.out.size))
          have d0 : W9.cell? ⟨wr.heap.size, 0, none⟩ = some (.int .i64 ((x + (b : Int)) % 32)) := by rw [blk_cell hblk]; rfl
          have d1 : W9.cell? ⟨wr.heap.size, 1, none⟩ = some (.int .i64 y) := by rw [blk_cell hblk]; rfl
          have hne := own_lt O.out
          clear hblk hb9 hW9
          go_wp2_with (at_builtin; refine app Try.eArc rfl _ _ rfl rfl (O9.out.alloc (.cells #[.int .i64 ((x + (b : Int)) % 32), .int .i64 y] 37)).drew (B9.out.alloc B9.out.size (.cells #[.int .i64 ((x + (b : Int)) % 32), .int .i64 y] 37)).drew (show w5.heap.size ≤ (W9.alloc (.cells #[.int .i64 ((x + (b : Int)) % 32), .int .i64 y] 37)).drew.heap.size from size_alloc' B9.out.size _) rfl (show Rd (W9.alloc (.cells #[.int .i64 ((x + (b : Int)) % 32), .int .i64 y] 37)).drew (W9.alloc (.cells #[.int .i64 ((x + (b : Int)) % 32), .int .i64 y] 37)).heap.size _ _ from Rd.two W9 (.int .i64 ((x + (b : Int)) % 32)) (.int .i64 y) 37) (by simp) (pt_one _ _) (k + 1) rfl (by omega) ?_; intro A4 c4 w10 o4 b4 g4 _; have O4 := Lib.hid o4; have B4 := Lib.hid b4; have D4 := Lib.hid (far_block D9.out ((Below.refl _ _).alloc (Nat.le_refl _) (.cells #[.int .i64 ((x + (b : Int)) % 32), .int .i64 y] 37)).drew g4 hne); clear o4 b4 g4; obtain ⟨c0, c1'⟩ := CU.out w10 B4.out)
          clear d0 d1 hne
          refine (HP0.out w10).mono ?_
          rintro e w11 ⟨rfl, hb⟩
          have O5 := Lib.hid (own_below O4.out hb)
          have B5' := Lib.hid (B4.out.trans (hb.mono B4.out.size))
          have D5 := Lib.hid ((hb.block _ (lt_of_block D4.out)).trans D4.out)
          clear hb c0 c1'
          have d0 : w11.cell? ⟨wr.heap.size, 0, none⟩ = some (.int .i64 ((x + (b : Int)) % 32)) := by rw [blk_cell D5.out]; rfl
          have d1 : w11.cell? ⟨wr.heap.size, 1, none⟩ = some (.int .i64 y) := by rw [blk_cell D5.out]; rfl
          go_wp2_with fail
          refine (HP1.out w11).mono ?_
          rintro e w12 ⟨rfl, hb⟩
          have O6 := Lib.hid (own_below O5.out hb)
          have B6 := Lib.hid (B5'.out.trans (hb.mono B5'.out.size))
          clear hb d0 d1
          go_wp2_with fail
          refine (HP2.out w12).mono ?_
          rintro e w' ⟨rfl, rfl⟩
          go_wp2_with fail
          go_roundw
          case rel => exact ⟨k + 1, A4, c4, by omega, by go_num, rfl, by rw [HTk.out]; exact O6.out, B6.out⟩
          case measure => simp [intOf]; omega
        · obtain rfl : k = l.length := by omega
          have R9 := Lib.hid (show Rd wr wr.heap.size A9 ((turnL b l).flatMap Pt.cells) from by
            have h := Rd.of_own O.out
            rw [List.take_of_length_le (by rw [turn_len]; exact Nat.le_refl _)] at h
            exact h)
          have B6 := Lib.hid (B5.out.trans (BW.out.mono B5.out.size))
          have Q2 := Lib.hid (Z2.out.below BW.out (Nat.le_refl _))
          have Q2' := Lib.hid (Q2.out.more BW.out.size)
          go_wp2_with fail
          refine ((HTL.out A9 c9) wr R9.out).mono ?_
          rintro e w13 ⟨rfl, hb⟩
          have B7 := Lib.hid (B6.out.trans (hb.mono B6.out.size))
          have R10 := Lib.hid ((R9.out.below hb (Nat.le_refl _)).more hb.size)
          have Q3' := Lib.hid ((Q2'.out.below hb (Nat.le_refl _)).more hb.size)
          clear hb
          go_wp2_with fail
          refine (HTT.out w13).mono ?_
          rintro e w' ⟨rfl, rfl⟩
          go_wp2_with fail
          refine (HTM.out A9 c9 w13 R10.out).mono ?_
          rintro e w14 ⟨A8, c8, rfl, hb⟩
          have B8 := Lib.hid (B7.out.trans (hb.mono B7.out.size))
          have Q4 := Lib.hid ((Q3'.out.below hb (Nat.le_refl _)).more hb.size)
          clear hb
          clear O R9 R10 BW Z1 Z2 Q2 Q2'
          by_cases hv : veerE W = 0
          · rw [hv] at HVe
            have HVz := Lib.hid hv
            clear hv
            rcases Nat.eq_zero_or_pos N with h0 | h0
            · subst h0
              go_wp2_with fail
              refine ((HVe.out w14 Q4.out)).mono ?_
              rintro e w' ⟨rfl, m, rfl⟩
              go_wp2_with fail
              go_ret
              exact ⟨rfl, bdN B8.out _⟩
            · have f0 : (N == 0) = false := by simp; omega
              have f1 : ((N : Int) == 0) = false := by simp; omega
              have f2 : decide ((N : Int) = 0) = false := by simp; omega
              have f2' : decide (N = 0) = false := by simp; omega
              obtain ⟨p, hp⟩ : ∃ p : Nat, N = p + 1 := ⟨N - 1, by omega⟩
              have f3 : IntKind.i64.wrap ((N : Int) - 1) = (p : Int) := by rw [IntKind.wrap_i64]; omega
              have f4 : (p : Int) < (N : Int) := by omega
              have f5 : (0 : Int) < (N : Int) := by omega
              obtain ⟨b2, o2, z, rfl, hz, cz⟩ := Q4.out.int p (by rw [HN.out]; omega)
              obtain ⟨b3, o3, a0, hA, ha0, ca⟩ := Q4.out.int 0 (by rw [HN.out]; omega)
              injection hA with hA
              injection hA with h1 h2 h3
              subst h1 h2
              clear h3
              have HH := Lib.hid (fun w => tHome HVz.out (by rw [HN.out]; exact h0) ha0.out (by rw [HN.out, hp]; exact hz.out) w)
              have hr := home_round HVz.out (by rw [HN.out]; exact h0) ha0.out (by rw [HN.out, hp]; exact hz.out)
              have hac := acr_lim z a0
              have hvl := HLim.out
              generalize acr z a0 = AC at *
              generalize veerV W = VV at *
              have f6 : IntKind.i64.wrap (VV + AC) = VV + AC := by rw [IntKind.wrap_i64]; omega
              have f7 := tmod_zero hr
              have ca2 := ca
              rw [Nat.add_zero] at ca2
              clear hp hr hac hvl
              go_wp2_with fail
              refine ((HVe.out w14 Q4.out)).mono ?_
              rintro e w' ⟨rfl, m, rfl⟩
              go_wp2_with fail
              go_quiet ((go_at_call 4; exact qs (HH.out _)))
              go_wp2_with fail
              go_ret
              exact ⟨rfl, bdN B8.out _⟩
          · generalize veerE W = VE at *
            have f0 : (VE == 0) = false := by simpa using hv
            have f1 : (VE != 0) = true := by simpa using hv
            clear hv
            go_wp2_with fail
            refine ((HVe.out w14 Q4.out)).mono ?_
            rintro e w' ⟨rfl, m, rfl⟩
            go_wp2_with fail
            go_ret
            exact ⟨rfl, bdN B8.out _⟩
    · have e1 : leeV l = 0 := if_neg hE
      rw [e1] at HL
      generalize pipesE l = E at *
      have b1 : (E == 0) = false := by simpa using hE
      have b2 : (E != 0) = true := by simpa using hE
      clear hE e1 h2
      go_enter Try.func3, Try.ntmps3
      go_wp2_with fail
      refine (HX.out w).mono ?_
      rintro e w' ⟨rfl, rfl⟩
      go_wp2_with fail
      refine (HM.out w).mono ?_
      rintro e w' ⟨rfl, rfl⟩
      go_wp2_with fail
      refine (HL.out w R1.out).mono ?_
      rintro e w1 ⟨rfl, hb⟩
      have B1 := Lib.hid hb
      clear hb
      go_wp2_with fail
      go_ret
      exact ⟨rfl, B1.out⟩
  · have HM := Lib.hid (fun w => Many_any A1 c1 l.length true w hn1 hlong)
    clear hlong
    go_enter Try.func3, Try.ntmps3
    go_wp2_with fail
    refine (HX.out w).mono ?_
    rintro e w' ⟨rfl, rfl⟩
    go_wp2_with fail
    refine (HM.out w).mono ?_
    rintro e w' ⟨rfl, rfl⟩
    go_wp2_with fail
    go_ret
    exact ⟨rfl, Below.refl _ _⟩
end Go.Proofs.Ytfokmgogbjifbaa

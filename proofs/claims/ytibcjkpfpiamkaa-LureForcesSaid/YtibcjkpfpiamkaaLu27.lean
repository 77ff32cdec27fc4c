/-
  Playing: the walk of Play of the reference. Conditions: the game and the plans can be read.
-/
import Derived.Test.YtibcjkpfpiamkaaLu26
import Derived.Test.YtibcjkpfpiamkaaLu17
namespace Go.Proofs.Ytibcjkpfpiamkaa
open Go.RowKit
set_option linter.unusedVariables false

theorem gat_bit {n : Nat} {L : List Int} (h : setL n L = true) (hn : n ≤ 32) (t : Nat) : (gatN L).testBit t = decide ((t : Int) ∈ L) := by
  rw [gat_at h hn, Bool.eq_iff_iff, memB_iff, decide_eq_true_eq]
set_option maxRecDepth 4000 in
set_option maxHeartbeats 3200000 in
theorem rPlay_any (g : Gv) (A : Option Addr) (c : Nat) (man : List Int) (A2 : Option Addr) (c2 : Nat) (ducks : List Int) (f m : Int) (w : World) (hr : RdG w w.heap.size g) (hf : Gfit g) (hq : Rd w w.heap.size A (ints man)) (hq2 : Rd w w.heap.size A2 (ints ducks)) :
    Calls Try.prog 38 #[g.v, .slice A man.length c, .slice A2 ducks.length c2, .int .i64 f, .int .i64 m] w (MadeIE w (plyL g.G man ducks f m) (plyE g.G man ducks f m)) := by
  obtain ⟨W, hW, p0, p1, hz, hb, hr1⟩ := box_game w g 25 hr
  have R0 := Lib.hid (hq.up hb)
  have S0 := Lib.hid (hq2.up hb)
  have RG0 := Lib.hid hr1
  have B0 := Lib.hid hb
  have HV := Lib.hid (fun w h => rValidate_any g w h hf)
  have hn0 : g.own.length ≤ 9223372036854775807 := by have := hf.n0; have := hf.m0; unfold maxLen at this; omega
  by_cases hE : gE g.G = 0
  · rw [hE] at HV
    have HP3 := Lib.hid (fun w => within_any f 0 ((g.own.length : Int) - 1) w)
    have HP4 := Lib.hid (fun w => within_any m 0 100 w)
    have hwn : IntKind.i64.wrap ((g.own.length : Int) - 1) = (g.own.length : Int) - 1 := by rw [IntKind.wrap_i64]; omega
    by_cases hB : plyB g.G man ducks f m = true
    · have e0 : plyE g.G man ducks f m = 0 := by rw [ply_val hE, if_pos hB]
      obtain ⟨_, hl1, hl2, hfr, hmv⟩ := ply_ok e0
      have e1 : plyL g.G man ducks f m = wayK g.G man ducks f.toNat m.toNat := if_pos e0
      rw [e0, e1]
      have eo : g.G.own = g.own := rfl
      rw [eo] at hl1 hl2 hfr
      rw [show inW 0 ((g.own.length : Int) - 1) f = true from inW_iff.2 ⟨hfr.1, by omega⟩] at HP3
      rw [show inW 0 100 m = true from inW_iff.2 hmv] at HP4
      obtain ⟨fn, rfl⟩ := Int.eq_ofNat_of_zero_le hfr.1
      obtain ⟨mn, rfl⟩ := Int.eq_ofNat_of_zero_le hmv.1
      rw [Int.toNat_natCast] at hfr
      rw [Int.toNat_natCast, Int.toNat_natCast]
      have hfl : fn < g.own.length := hfr.2
      have hml : mn ≤ 100 := by omega
      obtain ⟨W', hl⟩ := laid_of w g hr hf hE
      obtain rfl : W' = W := hl.hW.symm.trans hW
      have LA := Lib.hid hl
      have H := gE_zero hE
      have HPos := Lib.hid (fun k => pos_lt H (man := man) (ducks := ducks) (f := fn) hfl k)
      have HNat := Lib.hid (fun p (hp : p < g.own.length) => (nx_nat H (man := man) (ducks := ducks) (p := p) hp).1)
      have HNe := Lib.hid (fun p (hp : p < g.own.length) => H.ne (p := p) hp)
      have HWN := Lib.hid (fun k => wayK_next g.G man ducks fn k)
      have HWL := Lib.hid (fun k => wayK_len g.G man ducks fn k)
      have HIn := Lib.hid (fun x w => within_any x 0 ((g.own.length : Int) - 1) w)
      have HL1 := Lib.hid hl1
      have HL2 := Lib.hid hl2
      rw [eo] at HPos
      clear hr hf hq hq2 hb hr1 hE hB e0 e1 eo hl H hfr hmv hl1 hl2 hn0
      unfold Gv.v at HV ⊢
      generalize g.G = G at *
      obtain ⟨A0, c0, own, A1, c1, rs⟩ := g
      simp only at hW p0 p1 HV HP3 HPos HNat HNe HL1 HL2 HIn hfl hwn LA ⊢
      have hn16 := LA.out.le
      have x1 : ((man.length : Int) != (own.length : Int)) = false := by have := HL1.out; rw [bne_eq_false_iff_eq]; omega
      have x2 : (man.length != own.length) = false := by have := HL1.out; rw [bne_eq_false_iff_eq]; omega
      have x3 : ((ducks.length : Int) != (own.length : Int)) = false := by have := HL2.out; rw [bne_eq_false_iff_eq]; omega
      have x4 : (ducks.length != own.length) = false := by have := HL2.out; rw [bne_eq_false_iff_eq]; omega
      go_enter Try.func38, Try.ntmps38
      go_wp2_with fail
      refine (HV.out _ RG0.out).mono ?_
      rintro e w1 ⟨rfl, hb⟩
      have B1 := Lib.hid (B0.out.trans (hb.mono B0.out.size))
      have RG1 := Lib.hid (RG0.out.up hb)
      have R1 := Lib.hid (R0.out.up hb)
      have S1 := Lib.hid (S0.out.up hb)
      have a1 := cell_keep p0 hb hz
      have d1 := cell_keep p1 hb hz
      have z1 : w.heap.size < w1.heap.size := Nat.lt_of_lt_of_le hz hb.size
      clear hb p0 p1 hW
      go_wp2_with fail
      refine (HP3.out w1).mono ?_
      rintro e w' ⟨rfl, rfl⟩
      go_wp2_with fail
      refine (HP4.out w1).mono ?_
      rintro e w' ⟨rfl, rfl⟩
      obtain ⟨w6, hw6, k6, s6, b6⟩ := one_blk w1 #[.int .i64 (fn : Int)] 3
      have A5 := Lib.hid a1
      have D5 := Lib.hid d1
      have Z5 := Lib.hid z1
      have B6 := Lib.hid b6
      have O6 := Lib.hid (show w6.ownsRow w1.heap.size 3 1 (.slice (some ⟨w1.heap.size, 0, none⟩) 1 1) 1 (ints (wayK G man ducks fn 0)) by rw [← hw6]; exact own_one w1 (.int .i64 (fn : Int)) 3 (Nat.le_refl _) rfl)
      clear a1 d1 z1 k6 b6
      go_wp2_with fail
      clear hw6 s6 x1 x2 x3 x4
      go_loopw [3, 14, 15] (fun at_ v i wr => ∃ (k : Nat) (A9 : Option Addr) (c9 : Nat), k ≤ mn ∧ i = .int .i64 k ∧ at_ = .int .i64 (posN G man ducks fn k : Nat) ∧ v = .slice A9 (k + 1 : Nat) c9 ∧ wr.ownsRow w1.heap.size 3 1 v (k + 1) (ints (wayK G man ducks fn k)) ∧ Below w1.heap.size w1 wr) (fun _ _ i _ => mn - (intOf i).toNat)
      case atStart => exact ⟨0, _, _, by omega, rfl, rfl, rfl, O6.out, B6.out⟩
      case round =>
        obtain ⟨k, A9, c9, hk, rfl, rfl, rfl, hown, hb⟩ := hrel
        have O := Lib.hid hown
        have BW := Lib.hid hb
        have t0 := cell_keep A5.out hb Z5.out
        have t1 := cell_keep D5.out hb Z5.out
        have RGr := Lib.hid (RG1.out.up hb)
        have Rr := Lib.hid (R1.out.up hb)
        have Sr := Lib.hid (S1.out.up hb)
        clear hown hb
        by_cases hlt : k < mn
        · have hp := HPos.out k
          have HNp := Lib.hid (HNat.out (posN G man ducks fn k) hp)
          have HNx := Lib.hid (show posN G man ducks fn (k + 1) = (nxF G man ducks (posN G man ducks fn k)).toNat from rfl)
          have HWk := Lib.hid (HWN.out k)
          have hne := HNe.out (posN G man ducks fn k) hp
          have HMd := Lib.hid (show nxF G man ducks (posN G man ducks fn k) = moveF (G.row (posN G man ducks fn k)) (if G.who (posN G man ducks fn k) = 1 then ducks.getD (posN G man ducks fn k) 0 else man.getD (posN G man ducks fn k) 0) from rfl)
          have HLw := Lib.hid (show (wayK G man ducks fn k).length = k + 1 from HWL.out k)
          obtain ⟨p1, hp1⟩ : ∃ p1, posN G man ducks fn (k + 1) = p1 := ⟨_, rfl⟩
          rw [hp1] at HNx HWk
          have HPP := Lib.hid hp1
          clear hp1
          generalize posN G man ducks fn k = p at *
          obtain ⟨bo, oo, dw, hA0, hdw, cw⟩ := RGr.out.o.int p hp
          obtain ⟨bm, om, A', c', l, hA1, hrow, cl, hl⟩ := RGr.out.r.row p (show p < rs.length by have := LA.out.len; omega)
          obtain ⟨bx, ox, x, hAx, hx, cx⟩ := Rr.out.int p (by have := HL1.out; omega)
          obtain ⟨by', oy, y, hAy, hy, cy⟩ := Sr.out.int p (by have := HL2.out; omega)
          simp only at hA0 hA1 hdw hrow
          subst hA0 hA1 hAx hAy
          have hll := LA.out.fit _ (List.mem_of_getElem? hrow.out)
          simp only at hll
          have hrw := LA.out.row p _ _ _ hrow.out
          have hset := LA.out.set p _ _ _ hrow.out
          have hwho := LA.out.who p dw hdw.out
          have hwG : G.who p = dw := who_at (by rw [LA.out.ho]; exact hdw.out)
          have f0 : (0 : Int) ≤ (p : Int) := by omega
          have f1 : (p : Int) < (own.length : Int) := by omega
          have f2 : (p : Int) < (rs.length : Int) := by have := LA.out.len; omega
          have f3 : (p : Int) < (man.length : Int) := by have := HL1.out; omega
          have f4 : (p : Int) < (ducks.length : Int) := by have := HL2.out; omega
          have hmd := HMd.out
          rw [hrw, hwG, getD_at hx.out, getD_at hy.out] at hmd
          rw [hrw] at hne
          obtain ⟨b0, o0, h0, hA', hh0, ch0⟩ := hl.out.int 0 hne
          subst hA'
          rw [Nat.add_zero] at ch0
          have hlR := hl.out
          have hl0 : (0 : Int) < (l.length : Int) := by omega
          clear hrw hwG hp
          obtain ⟨N, hN⟩ : ∃ N, nxF G man ducks p = N := ⟨_, rfl⟩
          rw [hN] at hmd HNp HNx
          have HNI := Lib.hid (show N = (p1 : Int) by rw [HNx.out]; exact HNp.out)
          clear hN HMd HNp HNx
          have HBt := Lib.hid (fun w h => bits_any (some ⟨b0, o0, none⟩) c' l own.length w h hll hset (by omega))
          have hgl : gatN l < 4294967296 := bit32 _
          have HTest := Lib.hid (fun t => (shr_bit0 (gatN l) t (by omega)).trans (congrArg (fun b => !b) (gat_bit hset (by omega) t)))
          have HSet := Lib.hid hset
          clear hset hne hll
          rcases hwho with rfl | rfl
          · rw [if_neg (by decide)] at hmd
            have HQ := Lib.hid (fun w => HIn.out x w)
            by_cases hin : inW 0 ((own.length : Int) - 1) x = true
            · rw [hin] at HQ
              rw [inW_iff] at hin
              obtain ⟨t, rfl⟩ := Int.eq_ofNat_of_zero_le hin.1
              have ht := HTest.out t
              have g0 : (0 : Int) ≤ (t : Int) := by omega
              have g1 : (t : Int) < 64 := by omega
              by_cases hm : (t : Int) ∈ l
              · rw [decide_eq_true hm] at ht
                have HE := Lib.hid (show (t : Int) = (p1 : Int) by rw [← HNI.out, hmd]; exact (if_pos hm).symm)
                obtain rfl : p1 = t := by have := HE.out; omega
                clear hmd hm hin
                go_wp2_with fail
                refine (HQ.out wr).mono ?_
                rintro e w' ⟨rfl, rfl⟩
                go_wp2_with fail
                refine (HBt.out wr hlR).mono ?_
                rintro e w' ⟨rfl, rfl⟩
                go_wp2_with (at_builtin; refine app Try.eInt rfl _ _ rfl rfl (O.out.alloc _) (BW.out.alloc BW.out.size _) (size_alloc' BW.out.size _) rfl (Rd.one wr (.int .i64 (p1 : Int)) 3 (Nat.lt_succ_self _)) (by simp) (ints_one [(p1 : Int)]) (k + 1 + 1) rfl (by omega) ?_; intro A4 cc4 w8 o4 b4 _ _; have O4 := Lib.hid o4; have B4' := Lib.hid b4; clear o4 b4)
                go_roundw
                case rel => exact ⟨k + 1, A4, cc4, by omega, by go_num, by rw [HPP.out], rfl, by rw [HWk.out, ints_append]; exact O4.out, B4'.out⟩
                case measure => simp [intOf]; omega
              · rw [decide_eq_false hm] at ht
                have HE := Lib.hid (show h0 = (p1 : Int) by rw [← HNI.out, hmd]; unfold moveF; rw [if_neg hm, getD_at hh0.out])
                have hE2 := HE.out
                subst hE2
                clear hmd hm hin
                go_wp2_with fail
                refine (HQ.out wr).mono ?_
                rintro e w' ⟨rfl, rfl⟩
                go_wp2_with fail
                refine (HBt.out wr hlR).mono ?_
                rintro e w' ⟨rfl, rfl⟩
                go_wp2_with (at_builtin; refine app Try.eInt rfl _ _ rfl rfl (O.out.alloc _) (BW.out.alloc BW.out.size _) (size_alloc' BW.out.size _) rfl (Rd.one wr (.int .i64 (p1 : Int)) 3 (Nat.lt_succ_self _)) (by simp) (ints_one [(p1 : Int)]) (k + 1 + 1) rfl (by omega) ?_; intro A4 cc4 w8 o4 b4 _ _; have O4 := Lib.hid o4; have B4' := Lib.hid b4; clear o4 b4)
                go_roundw
                case rel => exact ⟨k + 1, A4, cc4, by omega, by go_num, by rw [HPP.out], rfl, by rw [HWk.out, ints_append]; exact O4.out, B4'.out⟩
                case measure => simp [intOf]; omega
            · have hm : ¬ x ∈ l := fun h => by
                have := set_mem HSet.out h
                exact hin (inW_iff.2 ⟨this.1, by omega⟩)
              rw [show inW 0 ((own.length : Int) - 1) x = false by simpa using hin] at HQ
              have HE := Lib.hid (show h0 = (p1 : Int) by rw [← HNI.out, hmd]; unfold moveF; rw [if_neg hm, getD_at hh0.out])
              have hE2 := HE.out
              subst hE2
              clear hmd hm hin
              go_wp2_with fail
              refine (HQ.out wr).mono ?_
              rintro e w' ⟨rfl, rfl⟩
              go_wp2_with (at_builtin; refine app Try.eInt rfl _ _ rfl rfl (O.out.alloc _) (BW.out.alloc BW.out.size _) (size_alloc' BW.out.size _) rfl (Rd.one wr (.int .i64 (p1 : Int)) 3 (Nat.lt_succ_self _)) (by simp) (ints_one [(p1 : Int)]) (k + 1 + 1) rfl (by omega) ?_; intro A4 cc4 w8 o4 b4 _ _; have O4 := Lib.hid o4; have B4' := Lib.hid b4; clear o4 b4)
              go_roundw
              case rel => exact ⟨k + 1, A4, cc4, by omega, by go_num, by rw [HPP.out], rfl, by rw [HWk.out, ints_append]; exact O4.out, B4'.out⟩
              case measure => simp [intOf]; omega
          · rw [if_pos rfl] at hmd
            have HQ := Lib.hid (fun w => HIn.out y w)
            by_cases hin : inW 0 ((own.length : Int) - 1) y = true
            · rw [hin] at HQ
              rw [inW_iff] at hin
              obtain ⟨t, rfl⟩ := Int.eq_ofNat_of_zero_le hin.1
              have ht := HTest.out t
              have g0 : (0 : Int) ≤ (t : Int) := by omega
              have g1 : (t : Int) < 64 := by omega
              by_cases hm : (t : Int) ∈ l
              · rw [decide_eq_true hm] at ht
                have HE := Lib.hid (show (t : Int) = (p1 : Int) by rw [← HNI.out, hmd]; exact (if_pos hm).symm)
                obtain rfl : p1 = t := by have := HE.out; omega
                clear hmd hm hin
                go_wp2_with fail
                refine (HQ.out wr).mono ?_
                rintro e w' ⟨rfl, rfl⟩
                go_wp2_with fail
                refine (HBt.out wr hlR).mono ?_
                rintro e w' ⟨rfl, rfl⟩
                go_wp2_with (at_builtin; refine app Try.eInt rfl _ _ rfl rfl (O.out.alloc _) (BW.out.alloc BW.out.size _) (size_alloc' BW.out.size _) rfl (Rd.one wr (.int .i64 (p1 : Int)) 3 (Nat.lt_succ_self _)) (by simp) (ints_one [(p1 : Int)]) (k + 1 + 1) rfl (by omega) ?_; intro A4 cc4 w8 o4 b4 _ _; have O4 := Lib.hid o4; have B4' := Lib.hid b4; clear o4 b4)
                go_roundw
                case rel => exact ⟨k + 1, A4, cc4, by omega, by go_num, by rw [HPP.out], rfl, by rw [HWk.out, ints_append]; exact O4.out, B4'.out⟩
                case measure => simp [intOf]; omega
              · rw [decide_eq_false hm] at ht
                have HE := Lib.hid (show h0 = (p1 : Int) by rw [← HNI.out, hmd]; unfold moveF; rw [if_neg hm, getD_at hh0.out])
                have hE2 := HE.out
                subst hE2
                clear hmd hm hin
                go_wp2_with fail
                refine (HQ.out wr).mono ?_
                rintro e w' ⟨rfl, rfl⟩
                go_wp2_with fail
                refine (HBt.out wr hlR).mono ?_
                rintro e w' ⟨rfl, rfl⟩
                go_wp2_with (at_builtin; refine app Try.eInt rfl _ _ rfl rfl (O.out.alloc _) (BW.out.alloc BW.out.size _) (size_alloc' BW.out.size _) rfl (Rd.one wr (.int .i64 (p1 : Int)) 3 (Nat.lt_succ_self _)) (by simp) (ints_one [(p1 : Int)]) (k + 1 + 1) rfl (by omega) ?_; intro A4 cc4 w8 o4 b4 _ _; have O4 := Lib.hid o4; have B4' := Lib.hid b4; clear o4 b4)
                go_roundw
                case rel => exact ⟨k + 1, A4, cc4, by omega, by go_num, by rw [HPP.out], rfl, by rw [HWk.out, ints_append]; exact O4.out, B4'.out⟩
                case measure => simp [intOf]; omega
            · have hm : ¬ y ∈ l := fun h => by
                have := set_mem HSet.out h
                exact hin (inW_iff.2 ⟨this.1, by omega⟩)
              rw [show inW 0 ((own.length : Int) - 1) y = false by simpa using hin] at HQ
              have HE := Lib.hid (show h0 = (p1 : Int) by rw [← HNI.out, hmd]; unfold moveF; rw [if_neg hm, getD_at hh0.out])
              have hE2 := HE.out
              subst hE2
              clear hmd hm hin
              go_wp2_with fail
              refine (HQ.out wr).mono ?_
              rintro e w' ⟨rfl, rfl⟩
              go_wp2_with (at_builtin; refine app Try.eInt rfl _ _ rfl rfl (O.out.alloc _) (BW.out.alloc BW.out.size _) (size_alloc' BW.out.size _) rfl (Rd.one wr (.int .i64 (p1 : Int)) 3 (Nat.lt_succ_self _)) (by simp) (ints_one [(p1 : Int)]) (k + 1 + 1) rfl (by omega) ?_; intro A4 cc4 w8 o4 b4 _ _; have O4 := Lib.hid o4; have B4' := Lib.hid b4; clear o4 b4)
              go_roundw
              case rel => exact ⟨k + 1, A4, cc4, by omega, by go_num, by rw [HPP.out], rfl, by rw [HWk.out, ints_append]; exact O4.out, B4'.out⟩
              case measure => simp [intOf]; omega
        · have hks : k = mn := by omega
          subst hks
          have hown := O.out
          obtain ⟨A8, c8, he, hc8⟩ := own_form hown
          have hc : k + 1 ≤ c9 := by injection he with h1 h2 h3; omega
          clear hown he
          go_wp2_with fail
          go_ret2
          exact ⟨A9, c9, by rw [HWL.out]; rfl, by rw [HWL.out]; exact hc, own_fresh O.out B1.out.size, Rd.of_own O.out, B1.out.trans (BW.out.mono B1.out.size)⟩
    · have e0 : plyE g.G man ducks f m = 1 := by rw [ply_val hE, if_neg hB]
      have e1 : plyL g.G man ducks f m = [] := by unfold plyL; rw [if_neg (by rw [e0]; decide)]
      rw [e0, e1]
      have eo : g.G.own = g.own := rfl
      unfold plyB at hB
      rw [eo] at hB
      have x1 : ((man.length : Int) != (g.own.length : Int)) = !decide (man.length = g.own.length) := by
        by_cases h : man.length = g.own.length
        · rw [decide_eq_true h, bne_eq_false_iff_eq.2 (by omega)]; rfl
        · rw [decide_eq_false h]; show _ = true; rw [bne_iff_ne]; omega
      have x2 : (man.length != g.own.length) = !decide (man.length = g.own.length) := by
        by_cases h : man.length = g.own.length
        · rw [decide_eq_true h, bne_eq_false_iff_eq.2 h]; rfl
        · rw [decide_eq_false h]; show _ = true; rw [bne_iff_ne]; exact h
      have x3 : ((ducks.length : Int) != (g.own.length : Int)) = !decide (ducks.length = g.own.length) := by
        by_cases h : ducks.length = g.own.length
        · rw [decide_eq_true h, bne_eq_false_iff_eq.2 (by omega)]; rfl
        · rw [decide_eq_false h]; show _ = true; rw [bne_iff_ne]; omega
      have x4 : (ducks.length != g.own.length) = !decide (ducks.length = g.own.length) := by
        by_cases h : ducks.length = g.own.length
        · rw [decide_eq_true h, bne_eq_false_iff_eq.2 h]; rfl
        · rw [decide_eq_false h]; show _ = true; rw [bne_iff_ne]; exact h
      clear hr hf hq hq2 hb hr1 hE e0 e1 eo hn0
      unfold Gv.v at HV ⊢
      generalize g.G = G at *
      obtain ⟨A0, c0, own, A1, c1, rs⟩ := g
      simp only at hW p0 p1 HV HP3 hB hwn x1 x2 x3 x4 ⊢
      generalize decide (man.length = own.length) = y1 at *
      generalize decide (ducks.length = own.length) = y2 at *
      generalize inW 0 ((own.length : Int) - 1) f = y3 at *
      generalize inW 0 100 m = y4 at *
      cases y1
      · go_enter Try.func38, Try.ntmps38
        go_wp2_with fail
        refine (HV.out W RG0.out).mono ?_
        rintro e w1 ⟨rfl, hb⟩
        have B1 := Lib.hid (B0.out.trans (hb.mono B0.out.size))
        have a1 := cell_keep p0 hb hz
        clear hb p0 p1 hW
        go_wp2_with fail
        go_ret2
        exact ⟨none, 0, rfl, by decide, fresh_nil w, .inl rfl, B1.out⟩
      · cases y2
        · go_enter Try.func38, Try.ntmps38
          go_wp2_with fail
          refine (HV.out W RG0.out).mono ?_
          rintro e w1 ⟨rfl, hb⟩
          have B1 := Lib.hid (B0.out.trans (hb.mono B0.out.size))
          have a1 := cell_keep p0 hb hz
          clear hb p0 p1 hW
          go_wp2_with fail
          go_ret2
          exact ⟨none, 0, rfl, by decide, fresh_nil w, .inl rfl, B1.out⟩
        · cases y3
          · go_enter Try.func38, Try.ntmps38
            go_wp2_with fail
            refine (HV.out W RG0.out).mono ?_
            rintro e w1 ⟨rfl, hb⟩
            have B1 := Lib.hid (B0.out.trans (hb.mono B0.out.size))
            have a1 := cell_keep p0 hb hz
            clear hb p0 p1 hW
            go_wp2_with fail
            refine (HP3.out w1).mono ?_
            rintro e w' ⟨rfl, rfl⟩
            go_wp2_with fail
            go_ret2
            exact ⟨none, 0, rfl, by decide, fresh_nil w, .inl rfl, B1.out⟩
          · cases y4
            · go_enter Try.func38, Try.ntmps38
              go_wp2_with fail
              refine (HV.out W RG0.out).mono ?_
              rintro e w1 ⟨rfl, hb⟩
              have B1 := Lib.hid (B0.out.trans (hb.mono B0.out.size))
              have a1 := cell_keep p0 hb hz
              clear hb p0 p1 hW
              go_wp2_with fail
              refine (HP3.out w1).mono ?_
              rintro e w' ⟨rfl, rfl⟩
              go_wp2_with fail
              refine (HP4.out w1).mono ?_
              rintro e w' ⟨rfl, rfl⟩
              go_wp2_with fail
              go_ret2
              exact ⟨none, 0, rfl, by decide, fresh_nil w, .inl rfl, B1.out⟩
            · exact absurd rfl hB
  · have e0 : plyE g.G man ducks f m = gE g.G := ply_bad hE
    have e1 : plyL g.G man ducks f m = [] := by unfold plyL; rw [if_neg (by rw [e0]; exact hE)]
    rw [e0, e1]
    generalize gE g.G = E at *
    have hb1 : (E == 0) = false := by simpa using hE
    have hb2' : (E != 0) = true := by simpa using hE
    clear hr hf hq hq2 hb hr1 hE e0 e1
    unfold Gv.v at HV ⊢
    generalize g.G = G at *
    obtain ⟨A0, c0, own, A1, c1, rs⟩ := g
    simp only at hW p0 p1 HV ⊢
    go_enter Try.func38, Try.ntmps38
    go_wp2_with fail
    refine (HV.out W RG0.out).mono ?_
    rintro e w3 ⟨rfl, hb⟩
    have B3 := Lib.hid (B0.out.trans (hb.mono B0.out.size))
    clear hb
    go_wp2_with fail
    go_ret2
    exact ⟨none, 0, rfl, by decide, fresh_nil w, .inl rfl, B3.out⟩
end Go.Proofs.Ytibcjkpfpiamkaa

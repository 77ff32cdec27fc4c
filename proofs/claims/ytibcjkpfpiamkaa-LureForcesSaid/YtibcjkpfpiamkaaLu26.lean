/-
  Playing: the walk of Play of package lure. Conditions: the game and the plans can be read.
-/
import Derived.Test.YtibcjkpfpiamkaaLu25
namespace Go.Proofs.Ytibcjkpfpiamkaa
open Go.RowKit
set_option linter.unusedVariables false

theorem own_one (w : World) {B : Nat} (u : Value) (e : TypeId) (hB : B ≤ w.heap.size) (hu : u.oneCell' = true) : (w.alloc (.cells #[u] e)).ownsRow B e 1 (.slice (some ⟨w.heap.size, 0, none⟩) 1 1) 1 [u] := by
  exact World.ownsRow_lit (base := B) (e := e) (size := 1) w #[u] 1 hB (by decide) rfl
set_option maxRecDepth 4000 in
set_option maxHeartbeats 3200000 in
theorem Play_any (g : Gv) (A : Option Addr) (c : Nat) (man : List Int) (A2 : Option Addr) (c2 : Nat) (ducks : List Int) (f m : Int) (w : World) (hr : RdG w w.heap.size g) (hf : Gfit g) (hq : Rd w w.heap.size A (ints man)) (hq2 : Rd w w.heap.size A2 (ints ducks)) :
    Calls Try.prog 37 #[g.v, .slice A man.length c, .slice A2 ducks.length c2, .int .i64 f, .int .i64 m] w (MadeIE w (plyL g.G man ducks f m) (plyE g.G man ducks f m)) := by
  obtain ⟨W, hW, p0, p1, hz, hb, hr1⟩ := box_game w g 25 hr
  have R0 := Lib.hid (hq.up hb)
  have S0 := Lib.hid (hq2.up hb)
  have RG0 := Lib.hid hr1
  have B0 := Lib.hid hb
  have HV := Lib.hid (fun w h => Validate_any g w h hf)
  by_cases hE : gE g.G = 0
  · rw [hE] at HV
    have HP1 := Lib.hid (fun w h => isPlan_any g A c man w h)
    have HP2 := Lib.hid (fun w h => isPlan_any g A2 c2 ducks w h)
    have HP3 := Lib.hid (fun w h => isPlace_any g f w h)
    have HP4 := Lib.hid (fun w => isMoves_any m w)
    have HVal := Lib.hid (ply_val (man := man) (ducks := ducks) (f := f) (m := m) hE)
    by_cases hB : plyB g.G man ducks f m = true
    · have e0 : plyE g.G man ducks f m = 0 := by rw [ply_val hE, if_pos hB]
      obtain ⟨_, hl1, hl2, hfr, hmv⟩ := ply_ok e0
      have e1 : plyL g.G man ducks f m = wayK g.G man ducks f.toNat m.toNat := if_pos e0
      rw [e0, e1]
      have eo : g.G.own = g.own := rfl
      rw [eo] at hl1 hl2 hfr
      rw [decide_eq_true hl1] at HP1
      rw [decide_eq_true hl2] at HP2
      rw [show inW 0 ((g.own.length : Int) - 1) f = true from inW_iff.2 ⟨hfr.1, by omega⟩] at HP3
      rw [show inW 0 100 m = true from inW_iff.2 hmv] at HP4
      obtain ⟨fn, rfl⟩ := Int.eq_ofNat_of_zero_le hfr.1
      obtain ⟨mn, rfl⟩ := Int.eq_ofNat_of_zero_le hmv.1
      rw [Int.toNat_natCast] at hfr
      rw [Int.toNat_natCast, Int.toNat_natCast]
      have hfl : fn < g.own.length := hfr.2
      have hml : mn ≤ 100 := by omega
      obtain ⟨W', hl⟩ := laid_of w g hr hf hE
      obtain rfl : W' = W := hl.hW.symm.trans hW
      have LA := Lib.hid hl
      have H := gE_zero hE
      have HPos := Lib.hid (fun k => pos_lt H (man := man) (ducks := ducks) (f := fn) hfl k)
      have HNat := Lib.hid (fun p (hp : p < g.own.length) => (nx_nat H (man := man) (ducks := ducks) (p := p) hp).1)
      have HNe := Lib.hid (fun p (hp : p < g.own.length) => H.ne (p := p) hp)
      have HWN := Lib.hid (fun k => wayK_next g.G man ducks fn k)
      have HWL := Lib.hid (fun k => wayK_len g.G man ducks fn k)
      have HL1 := Lib.hid hl1
      have HL2 := Lib.hid hl2
      rw [eo] at HPos
      clear hr hf hq hq2 hb hr1 hE HVal hB e0 e1 eo hl H hfr hmv hl1 hl2
      unfold Gv.v at HV HP1 HP2 HP3 ⊢
      generalize g.G = G at *
      obtain ⟨A0, c0, own, A1, c1, rs⟩ := g
      simp only at hW p0 p1 HV HP1 HP2 HP3 HPos HNat HNe HL1 HL2 hfl LA ⊢
      have hn16 := LA.out.le
      go_enter Try.func37, Try.ntmps37
      go_wp2_with fail
      refine (HV.out _ RG0.out).mono ?_
      rintro e w1 ⟨rfl, hb⟩
      have B1 := Lib.hid (B0.out.trans (hb.mono B0.out.size))
      have RG1 := Lib.hid (RG0.out.up hb)
      have R1 := Lib.hid (R0.out.up hb)
      have S1 := Lib.hid (S0.out.up hb)
      have a1 := cell_keep p0 hb hz
      have d1 := cell_keep p1 hb hz
      have z1 : w.heap.size < w1.heap.size := Nat.lt_of_lt_of_le hz hb.size
      clear hb p0 p1 hW
      go_wp2_with fail
      refine (HP1.out w1 RG1.out).mono ?_
      rintro e w2 ⟨rfl, hb⟩
      have B2 := Lib.hid (B1.out.trans (hb.mono B1.out.size))
      have RG2 := Lib.hid (RG1.out.up hb)
      have R2 := Lib.hid (R1.out.up hb)
      have S2 := Lib.hid (S1.out.up hb)
      have a2 := cell_keep a1 hb z1
      have d2 := cell_keep d1 hb z1
      have z2 : w.heap.size < w2.heap.size := Nat.lt_of_lt_of_le z1 hb.size
      clear hb a1 d1 z1
      go_wp2_with fail
      refine (HP2.out w2 RG2.out).mono ?_
      rintro e w3 ⟨rfl, hb⟩
      have B3 := Lib.hid (B2.out.trans (hb.mono B2.out.size))
      have RG3 := Lib.hid (RG2.out.up hb)
      have R3 := Lib.hid (R2.out.up hb)
      have S3 := Lib.hid (S2.out.up hb)
      have a3 := cell_keep a2 hb z2
      have d3 := cell_keep d2 hb z2
      have z3 : w.heap.size < w3.heap.size := Nat.lt_of_lt_of_le z2 hb.size
      clear hb a2 d2 z2
      go_wp2_with fail
      refine (HP3.out w3 RG3.out).mono ?_
      rintro e w4 ⟨rfl, hb⟩
      have B4 := Lib.hid (B3.out.trans (hb.mono B3.out.size))
      have RG4 := Lib.hid (RG3.out.up hb)
      have R4 := Lib.hid (R3.out.up hb)
      have S4 := Lib.hid (S3.out.up hb)
      have a4 := cell_keep a3 hb z3
      have d4 := cell_keep d3 hb z3
      have z4 : w.heap.size < w4.heap.size := Nat.lt_of_lt_of_le z3 hb.size
      clear hb a3 d3 z3
      go_wp2_with fail
      refine (HP4.out w4).mono ?_
      rintro e w' ⟨rfl, rfl⟩
      obtain ⟨w5, hw5, k5, s5, b5⟩ := one_blk w4 #[.slice A man.length c, .slice A2 ducks.length c2] 72
      have RG5 := Lib.hid (RG4.out.up b5)
      have R5 := Lib.hid (R4.out.up b5)
      have S5 := Lib.hid (S4.out.up b5)
      have a5 := cell_keep a4 b5 z4
      have d5 := cell_keep d4 b5 z4
      have z5 : w.heap.size < w5.heap.size := Nat.lt_of_lt_of_le z4 b5.size
      have k50 : w5.cell? ⟨w4.heap.size, 0, none⟩ = some (.slice A man.length c) := by rw [blk_cell k5]; rfl
      have k51 : w5.cell? ⟨w4.heap.size, 1, none⟩ = some (.slice A2 ducks.length c2) := by rw [blk_cell k5]; rfl
      have B5 := Lib.hid (B4.out.trans (b5.mono B4.out.size))
      obtain ⟨w6, hw6, k6, s6, b6⟩ := one_blk w5 #[.int .i64 (fn : Int)] 3
      have A5 := Lib.hid a5
      have D5 := Lib.hid d5
      have K50 := Lib.hid k50
      have K51 := Lib.hid k51
      have Z5 := Lib.hid (And.intro z5 s5)
      have B6 := Lib.hid b6
      have O6 := Lib.hid (show w6.ownsRow w5.heap.size 3 1 (.slice (some ⟨w5.heap.size, 0, none⟩) 1 1) 1 (ints (wayK G man ducks fn 0)) by rw [← hw6]; exact own_one w5 (.int .i64 (fn : Int)) 3 (Nat.le_refl _) rfl)
      clear a4 d4 z4 a5 d5 z5 k5 k6 b5 b6 s5 k50 k51
      go_wp2_with fail
      clear hw5 hw6 s6
      go_loopw [14, 15, 49] (fun at_ v i wr => ∃ (k : Nat) (A9 : Option Addr) (c9 : Nat), k ≤ mn ∧ i = .int .i64 k ∧ at_ = .int .i64 (posN G man ducks fn k : Nat) ∧ v = .slice A9 (k + 1 : Nat) c9 ∧ wr.ownsRow w5.heap.size 3 1 v (k + 1) (ints (wayK G man ducks fn k)) ∧ Below w5.heap.size w5 wr) (fun _ _ i _ => mn - (intOf i).toNat)
      case atStart => exact ⟨0, _, _, by omega, rfl, rfl, rfl, O6.out, B6.out⟩
      case round =>
        obtain ⟨k, A9, c9, hk, rfl, rfl, rfl, hown, hb⟩ := hrel
        have O := Lib.hid hown
        have BW := Lib.hid hb
        have t0 := cell_keep A5.out hb Z5.out.1
        have t1 := cell_keep D5.out hb Z5.out.1
        have tp0 := cell_keep K50.out hb Z5.out.2
        have tp1 := cell_keep K51.out hb Z5.out.2
        have RGr := Lib.hid (RG5.out.up hb)
        have Rr := Lib.hid (R5.out.up hb)
        have Sr := Lib.hid (S5.out.up hb)
        clear hown hb
        by_cases hlt : k < mn
        · have hp := HPos.out k
          have HNp := Lib.hid (HNat.out (posN G man ducks fn k) hp)
          have HNx := Lib.hid (show posN G man ducks fn (k + 1) = (nxF G man ducks (posN G man ducks fn k)).toNat from rfl)
          have HWk := Lib.hid (HWN.out k)
          have hne := HNe.out (posN G man ducks fn k) hp
          have HMd := Lib.hid (show nxF G man ducks (posN G man ducks fn k) = moveF (G.row (posN G man ducks fn k)) (if G.who (posN G man ducks fn k) = 1 then ducks.getD (posN G man ducks fn k) 0 else man.getD (posN G man ducks fn k) 0) from rfl)
          have hlw : (wayK G man ducks fn k).length = k + 1 := HWL.out k
          have HLw := Lib.hid hlw
          clear hlw
          obtain ⟨p1, hp1⟩ : ∃ p1, posN G man ducks fn (k + 1) = p1 := ⟨_, rfl⟩
          rw [hp1] at HNx HWk
          have HPP := Lib.hid hp1
          clear hp1
          generalize posN G man ducks fn k = p at *
          obtain ⟨bo, oo, dw, hA0, hdw, cw⟩ := RGr.out.o.int p hp
          obtain ⟨bm, om, A', c', l, hA1, hrow, cl, hl⟩ := RGr.out.r.row p (show p < rs.length by have := LA.out.len; omega)
          obtain ⟨bx, ox, x, hAx, hx, cx⟩ := Rr.out.int p (by have := HL1.out; omega)
          obtain ⟨by', oy, y, hAy, hy, cy⟩ := Sr.out.int p (by have := HL2.out; omega)
          simp only at hA0 hA1 hdw hrow
          subst hA0 hA1 hAx hAy
          have hll := LA.out.fit _ (List.mem_of_getElem? hrow.out)
          simp only at hll
          have hrw := LA.out.row p _ _ _ hrow.out
          have hwho := LA.out.who p dw hdw.out
          have hwG : G.who p = dw := who_at (by rw [LA.out.ho]; exact hdw.out)
          have f0 : (0 : Int) ≤ (p : Int) := by omega
          have f1 : (p : Int) < (own.length : Int) := by omega
          have f2 : (p : Int) < (rs.length : Int) := by have := LA.out.len; omega
          have f3 : (p : Int) < (man.length : Int) := by have := HL1.out; omega
          have f4 : (p : Int) < (ducks.length : Int) := by have := HL2.out; omega
          have hmd := HMd.out
          rw [hrw, hwG, getD_at hx.out, getD_at hy.out] at hmd
          rw [hrw] at hne
          have hlR := hl.out
          clear hrw hwG hp
          obtain ⟨N, hN⟩ : ∃ N, nxF G man ducks p = N := ⟨_, rfl⟩
          rw [hN] at hmd HNp HNx
          have HNI := Lib.hid (show N = (p1 : Int) by rw [HNx.out]; exact HNp.out)
          clear hN HMd HNp HNx
          rcases hwho with rfl | rfl
          · rw [if_neg (by decide)] at hmd
            have HQ := Lib.hid (fun w (h : Rd w w.heap.size A' (ints l)) => move_any A' c' l x w h hll hne)
            rw [← hmd, HNI.out] at HQ
            clear hmd hne hll
            go_wp2_with fail
            go_quiet ((go_at_call 76; exact qs0 (HQ.out _ hlR)))
            generalize hwq : wr.drewN nq = wq
            have Oq := Lib.hid (show wq.ownsRow w5.heap.size 3 1 (.slice A9 (k + 1 : Nat) c9) (k + 1) (ints (wayK G man ducks fn k)) by rw [← hwq]; exact O.out)
            have BQ := Lib.hid (show Below w5.heap.size w5 wq by rw [← hwq]; exact bdN BW.out _)
            clear hwq
            go_wp2_with (at_builtin; refine app Try.eInt rfl _ _ rfl rfl (Oq.out.alloc _) (BQ.out.alloc BQ.out.size _) (size_alloc' BQ.out.size _) rfl (Rd.one wq (.int .i64 (p1 : Int)) 3 (Nat.lt_succ_self _)) (by simp) (ints_one [(p1 : Int)]) (k + 1 + 1) rfl (by omega) ?_; intro A4 cc4 w8 o4 b4 _ _; have O4 := Lib.hid o4; have B4' := Lib.hid b4; clear o4 b4)
            go_roundw
            case rel => exact ⟨k + 1, A4, cc4, by omega, by go_num, by rw [HPP.out], rfl, by rw [HWk.out, ints_append]; exact O4.out, B4'.out⟩
            case measure => simp [intOf]; omega
          · rw [if_pos rfl] at hmd
            have HQ := Lib.hid (fun w (h : Rd w w.heap.size A' (ints l)) => move_any A' c' l y w h hll hne)
            rw [← hmd, HNI.out] at HQ
            clear hmd hne hll
            go_wp2_with fail
            go_quiet ((go_at_call 76; exact qs0 (HQ.out _ hlR)))
            generalize hwq : wr.drewN nq = wq
            have Oq := Lib.hid (show wq.ownsRow w5.heap.size 3 1 (.slice A9 (k + 1 : Nat) c9) (k + 1) (ints (wayK G man ducks fn k)) by rw [← hwq]; exact O.out)
            have BQ := Lib.hid (show Below w5.heap.size w5 wq by rw [← hwq]; exact bdN BW.out _)
            clear hwq
            go_wp2_with (at_builtin; refine app Try.eInt rfl _ _ rfl rfl (Oq.out.alloc _) (BQ.out.alloc BQ.out.size _) (size_alloc' BQ.out.size _) rfl (Rd.one wq (.int .i64 (p1 : Int)) 3 (Nat.lt_succ_self _)) (by simp) (ints_one [(p1 : Int)]) (k + 1 + 1) rfl (by omega) ?_; intro A4 cc4 w8 o4 b4 _ _; have O4 := Lib.hid o4; have B4' := Lib.hid b4; clear o4 b4)
            go_roundw
            case rel => exact ⟨k + 1, A4, cc4, by omega, by go_num, by rw [HPP.out], rfl, by rw [HWk.out, ints_append]; exact O4.out, B4'.out⟩
            case measure => simp [intOf]; omega
        · have hks : k = mn := by omega
          subst hks
          have hown := O.out
          obtain ⟨A8, c8, he, hc8⟩ := own_form hown
          have hc : k + 1 ≤ c9 := by injection he with h1 h2 h3; omega
          clear hown he
          go_wp2_with fail
          go_ret2
          exact ⟨A9, c9, by rw [HWL.out]; rfl, by rw [HWL.out]; exact hc, own_fresh O.out B5.out.size, Rd.of_own O.out, B5.out.trans (BW.out.mono B5.out.size)⟩
    · have e0 : plyE g.G man ducks f m = 1 := by rw [ply_val hE, if_neg hB]
      have e1 : plyL g.G man ducks f m = [] := by unfold plyL; rw [if_neg (by rw [e0]; decide)]
      rw [e0, e1]
      have eo : g.G.own = g.own := rfl
      unfold plyB at hB
      rw [eo] at hB
      clear hr hf hq hq2 hb hr1 hE HVal e0 e1 eo
      unfold Gv.v at HV HP1 HP2 HP3 ⊢
      generalize g.G = G at *
      obtain ⟨A0, c0, own, A1, c1, rs⟩ := g
      simp only at hW p0 p1 HV HP1 HP2 HP3 hB ⊢
      generalize decide (man.length = own.length) = x1 at *
      generalize decide (ducks.length = own.length) = x2 at *
      generalize inW 0 ((own.length : Int) - 1) f = x3 at *
      generalize inW 0 100 m = x4 at *
      cases x1
      · go_enter Try.func37, Try.ntmps37
        go_wp2_with fail
        refine (HV.out W RG0.out).mono ?_
        rintro e w1 ⟨rfl, hb⟩
        have B1 := Lib.hid (B0.out.trans (hb.mono B0.out.size))
        have RG1 := Lib.hid (RG0.out.up hb)
        have a1 := cell_keep p0 hb hz
        have d1 := cell_keep p1 hb hz
        clear hb p0 p1 hW
        go_wp2_with fail
        refine (HP1.out w1 RG1.out).mono ?_
        rintro e w2 ⟨rfl, hb⟩
        have B2 := Lib.hid (B1.out.trans (hb.mono B1.out.size))
        clear hb
        go_wp2_with fail
        go_ret2
        exact ⟨none, 0, rfl, by decide, fresh_nil w, .inl rfl, B2.out⟩
      · cases x2
        · go_enter Try.func37, Try.ntmps37
          go_wp2_with fail
          refine (HV.out W RG0.out).mono ?_
          rintro e w1 ⟨rfl, hb⟩
          have B1 := Lib.hid (B0.out.trans (hb.mono B0.out.size))
          have RG1 := Lib.hid (RG0.out.up hb)
          have a1 := cell_keep p0 hb hz
          have d1 := cell_keep p1 hb hz
          have z1 : w.heap.size < w1.heap.size := Nat.lt_of_lt_of_le hz hb.size
          clear hb p0 p1 hW
          go_wp2_with fail
          refine (HP1.out w1 RG1.out).mono ?_
          rintro e w2 ⟨rfl, hb⟩
          have B2 := Lib.hid (B1.out.trans (hb.mono B1.out.size))
          have RG2 := Lib.hid (RG1.out.up hb)
          have a2 := cell_keep a1 hb z1
          have d2 := cell_keep d1 hb z1
          have z2 : w.heap.size < w2.heap.size := Nat.lt_of_lt_of_le z1 hb.size
          clear hb a1 d1 z1
          go_wp2_with fail
          refine (HP2.out w2 RG2.out).mono ?_
          rintro e w3 ⟨rfl, hb⟩
          have B3 := Lib.hid (B2.out.trans (hb.mono B2.out.size))
          clear hb
          go_wp2_with fail
          go_ret2
          exact ⟨none, 0, rfl, by decide, fresh_nil w, .inl rfl, B3.out⟩
        · cases x3
          · go_enter Try.func37, Try.ntmps37
            go_wp2_with fail
            refine (HV.out W RG0.out).mono ?_
            rintro e w1 ⟨rfl, hb⟩
            have B1 := Lib.hid (B0.out.trans (hb.mono B0.out.size))
            have RG1 := Lib.hid (RG0.out.up hb)
            have a1 := cell_keep p0 hb hz
            have d1 := cell_keep p1 hb hz
            have z1 : w.heap.size < w1.heap.size := Nat.lt_of_lt_of_le hz hb.size
            clear hb p0 p1 hW
            go_wp2_with fail
            refine (HP1.out w1 RG1.out).mono ?_
            rintro e w2 ⟨rfl, hb⟩
            have B2 := Lib.hid (B1.out.trans (hb.mono B1.out.size))
            have RG2 := Lib.hid (RG1.out.up hb)
            have a2 := cell_keep a1 hb z1
            have d2 := cell_keep d1 hb z1
            have z2 : w.heap.size < w2.heap.size := Nat.lt_of_lt_of_le z1 hb.size
            clear hb a1 d1 z1
            go_wp2_with fail
            refine (HP2.out w2 RG2.out).mono ?_
            rintro e w3 ⟨rfl, hb⟩
            have B3 := Lib.hid (B2.out.trans (hb.mono B2.out.size))
            have RG3 := Lib.hid (RG2.out.up hb)
            have a3 := cell_keep a2 hb z2
            have d3 := cell_keep d2 hb z2
            have z3 : w.heap.size < w3.heap.size := Nat.lt_of_lt_of_le z2 hb.size
            clear hb a2 d2 z2
            go_wp2_with fail
            refine (HP3.out w3 RG3.out).mono ?_
            rintro e w4 ⟨rfl, hb⟩
            have B4 := Lib.hid (B3.out.trans (hb.mono B3.out.size))
            clear hb
            go_wp2_with fail
            go_ret2
            exact ⟨none, 0, rfl, by decide, fresh_nil w, .inl rfl, B4.out⟩
          · cases x4
            · go_enter Try.func37, Try.ntmps37
              go_wp2_with fail
              refine (HV.out W RG0.out).mono ?_
              rintro e w1 ⟨rfl, hb⟩
              have B1 := Lib.hid (B0.out.trans (hb.mono B0.out.size))
              have RG1 := Lib.hid (RG0.out.up hb)
              have a1 := cell_keep p0 hb hz
              have d1 := cell_keep p1 hb hz
              have z1 : w.heap.size < w1.heap.size := Nat.lt_of_lt_of_le hz hb.size
              clear hb p0 p1 hW
              go_wp2_with fail
              refine (HP1.out w1 RG1.out).mono ?_
              rintro e w2 ⟨rfl, hb⟩
              have B2 := Lib.hid (B1.out.trans (hb.mono B1.out.size))
              have RG2 := Lib.hid (RG1.out.up hb)
              have a2 := cell_keep a1 hb z1
              have d2 := cell_keep d1 hb z1
              have z2 : w.heap.size < w2.heap.size := Nat.lt_of_lt_of_le z1 hb.size
              clear hb a1 d1 z1
              go_wp2_with fail
              refine (HP2.out w2 RG2.out).mono ?_
              rintro e w3 ⟨rfl, hb⟩
              have B3 := Lib.hid (B2.out.trans (hb.mono B2.out.size))
              have RG3 := Lib.hid (RG2.out.up hb)
              have a3 := cell_keep a2 hb z2
              have d3 := cell_keep d2 hb z2
              have z3 : w.heap.size < w3.heap.size := Nat.lt_of_lt_of_le z2 hb.size
              clear hb a2 d2 z2
              go_wp2_with fail
              refine (HP3.out w3 RG3.out).mono ?_
              rintro e w4 ⟨rfl, hb⟩
              have B4 := Lib.hid (B3.out.trans (hb.mono B3.out.size))
              clear hb
              go_wp2_with fail
              refine (HP4.out w4).mono ?_
              rintro e w' ⟨rfl, rfl⟩
              go_wp2_with fail
              go_ret2
              exact ⟨none, 0, rfl, by decide, fresh_nil w, .inl rfl, B4.out⟩
            · exact absurd rfl hB
  · have e0 : plyE g.G man ducks f m = gE g.G := ply_bad hE
    have e1 : plyL g.G man ducks f m = [] := by unfold plyL; rw [if_neg (by rw [e0]; exact hE)]
    rw [e0, e1]
    generalize gE g.G = E at *
    have hb1 : (E == 0) = false := by simpa using hE
    have hb2' : (E != 0) = true := by simpa using hE
    clear hr hf hq hq2 hb hr1 hE e0 e1
    unfold Gv.v at HV ⊢
    generalize g.G = G at *
    obtain ⟨A0, c0, own, A1, c1, rs⟩ := g
    simp only at hW p0 p1 HV ⊢
    go_enter Try.func37, Try.ntmps37
    go_wp2_with fail
    refine (HV.out W RG0.out).mono ?_
    rintro e w3 ⟨rfl, hb⟩
    have B3 := Lib.hid (B0.out.trans (hb.mono B0.out.size))
    clear hb
    go_wp2_with fail
    go_ret2
    exact ⟨none, 0, rfl, by decide, fresh_nil w, .inl rfl, B3.out⟩
end Go.Proofs.Ytibcjkpfpiamkaa

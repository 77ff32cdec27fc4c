/-
  The walks of the laws LurePlans: they return true. Conditions: the game and the lists can be read.
-/
import Derived.Test.YtibcjkpfpiamkaaLwKeeps
import Derived.Test.YtibcjkpfpiamkaaLu24
namespace Go.Proofs.Ytibcjkpfpiamkaa
open Go.RowKit
set_option linter.unusedVariables false

theorem su_find {L : List Int} {p : Int → Bool} (h : ∃ d ∈ L, p d = true) : ∃ d, L.find? p = some d ∧ d ∈ L ∧ p d = true := by
  cases hf : L.find? p with
  | none =>
    obtain ⟨d, hd, hp⟩ := h
    have := List.find?_eq_none.1 hf d hd
    rw [hp] at this
    exact absurd rfl this
  | some d => exact ⟨d, rfl, List.mem_of_find?_eq_some hf, List.find?_some hf⟩
theorem plF_none {G : Gm} {b : Int} {su : Nat → Nat → Bool} {p : Nat} (h : ∀ d ∈ G.row p, su p d.toNat = false) : plF G b su p = -1 := by
  unfold plF
  split
  · rw [List.find?_eq_none.2 fun d hd => by rw [h d hd]; decide]
    rfl
  · rfl
theorem plF_some {G : Gm} {b : Int} {su : Nat → Nat → Bool} {p : Nat} (hw : G.who p = b) (h : ∃ d ∈ G.row p, su p d.toNat = true) : ∃ d ∈ G.row p, plF G b su p = d ∧ su p d.toNat = true := by
  obtain ⟨d, h1, h2, h3⟩ := su_find (p := fun d => su p d.toNat) h
  refine ⟨d, h2, ?_, h3⟩
  unfold plF
  rw [if_pos hw, h1]
  rfl
theorem rkL_get {G : Gm} {goal p : Nat} (hp : p < G.own.length) : (rkL G goal).getD p 0 = rkI G goal p := by
  rw [List.getD_eq_getElem?_getD, rkL_at hp]; rfl
section
variable {G : Gm} {goal p : Nat}
theorem man_yes (H : Ok G) (hg : goal < 2 ^ G.own.length) (hp : p < G.own.length) (hw : G.who p = 0) (hr : 0 < rkI G goal p) :
    ∃ t : Nat, plF G 0 (suP (rkL G goal)) p = (t : Int) ∧ t < G.own.length ∧ (t : Int) ∈ G.row p ∧ 0 ≤ rkI G goal t ∧ rkI G goal t < rkI G goal p := by
  obtain ⟨m, hm⟩ := Int.eq_ofNat_of_zero_le (show 0 ≤ rkI G goal p - 1 by omega)
  have h2 := rk_some (k := m + 1) (show rkI G goal p = ((m + 1 : Nat) : Int) by omega)
  have e : lv G goal (m + 1 + 1) = goal ||| fcN G 0 (lv G goal (m + 1)) := rfl
  rw [e, Nat.testBit_or, fcN_at hp] at h2
  have hgoal : goal.testBit p = false := by
    cases hb : goal.testBit p
    · rfl
    · rw [goal_sub H m p hb] at h2; cases h2.2
  rw [hgoal, Bool.false_or] at h2
  have h3 := h2.1
  unfold fcB at h3
  rw [if_pos hw] at h3
  obtain ⟨d, hd, hb⟩ := List.any_eq_true.1 h3
  have hdm := H.mem hp hd
  rw [rk_iff hg] at hb
  have hsu : suP (rkL G goal) p d.toNat = true := by
    unfold suP
    rw [rkL_get hdm.2, rkL_get hp, Bool.and_eq_true, Bool.not_eq_true', decide_eq_false_iff_not, decide_eq_true_eq]
    omega
  obtain ⟨x, hx, hpx, hsx⟩ := plF_some (b := 0) (su := suP (rkL G goal)) hw ⟨d, hd, hsu⟩
  have hxm := H.mem hp hx
  unfold suP at hsx
  rw [rkL_get hxm.2, rkL_get hp, Bool.and_eq_true, Bool.not_eq_true', decide_eq_false_iff_not, decide_eq_true_eq] at hsx
  have := rk_ge (G := G) (goal := goal) x.toNat
  exact ⟨x.toNat, by rw [hpx]; omega, hxm.2, by rw [show ((x.toNat : Nat) : Int) = x by omega]; exact hx, by omega, hsx.2⟩
theorem man_no (H : Ok G) (hp : p < G.own.length) (h : ¬ (G.who p = 0 ∧ 0 < rkI G goal p)) : plF G 0 (suP (rkL G goal)) p = -1 := by
  by_cases hw : G.who p = 0
  · refine plF_none fun d hd => ?_
    have hdm := H.mem hp hd
    unfold suP
    rw [rkL_get hdm.2, rkL_get hp]
    have := rk_ge (G := G) (goal := goal) d.toNat
    by_cases h1 : rkI G goal d.toNat = -1
    · rw [decide_eq_true h1]; rfl
    · rw [decide_eq_false (show ¬ rkI G goal d.toNat < rkI G goal p by omega), Bool.and_false]
  · unfold plF
    rw [if_neg hw]
theorem duck_yes (H : Ok G) (hg : goal < 2 ^ G.own.length) (hp : p < G.own.length) (hw : G.who p = 1) (hr : rkI G goal p < 0) :
    ∃ t : Nat, plF G 1 (suF (rkL G goal)) p = (t : Int) ∧ t < G.own.length ∧ (t : Int) ∈ G.row p ∧ rkI G goal t < 0 := by
  have hge := rk_ge (G := G) (goal := goal) p
  have hnw : ¬ (wonN G goal).testBit p = true := by
    show ¬ (lv G goal G.own.length).testBit p = true
    rw [rk_won hg]; omega
  rw [← lv_fix (G := G) hg, Nat.testBit_or, fcN_at hp, Bool.not_eq_true, Bool.or_eq_false_iff] at hnw
  have h3 := hnw.2
  unfold fcB at h3
  rw [hw, if_neg (by decide)] at h3
  unfold inn at h3
  rw [List.all_eq_false] at h3
  obtain ⟨d, hd, hb⟩ := h3
  have hdm := H.mem hp hd
  have hrd : rkI G goal d.toNat = -1 := rk_none hg hb
  have hsu : suF (rkL G goal) p d.toNat = true := by
    unfold suF
    rw [rkL_get hdm.2, rkL_get hp, Bool.and_eq_true, decide_eq_true_eq, decide_eq_true_eq]
    omega
  obtain ⟨x, hx, hpx, hsx⟩ := plF_some (b := 1) (su := suF (rkL G goal)) hw ⟨d, hd, hsu⟩
  have hxm := H.mem hp hx
  unfold suF at hsx
  rw [rkL_get hxm.2, rkL_get hp, Bool.and_eq_true, decide_eq_true_eq, decide_eq_true_eq] at hsx
  exact ⟨x.toNat, by rw [hpx]; omega, hxm.2, by rw [show ((x.toNat : Nat) : Int) = x by omega]; exact hx, by omega⟩
theorem duck_no (H : Ok G) (hp : p < G.own.length) (h : ¬ (G.who p = 1 ∧ rkI G goal p < 0)) : plF G 1 (suF (rkL G goal)) p = -1 := by
  by_cases hw : G.who p = 1
  · refine plF_none fun d hd => ?_
    have hdm := H.mem hp hd
    unfold suF
    rw [rkL_get hdm.2, rkL_get hp, decide_eq_false (show ¬ rkI G goal p = -1 by omega)]
    rfl
  · unfold plF
    rw [if_neg hw]
end
theorem plL_at {G : Gm} {b : Int} {su : Nat → Nat → Bool} {p : Nat} (hp : p < G.own.length) : (plL G b su)[p]? = some (plF G b su p) := by simp [plL, hp]
theorem plL_len (G : Gm) (b : Int) (su : Nat → Nat → Bool) : (plL G b su).length = G.own.length := by simp [plL]
/-- What the lists hold at a place, read off. -/
theorem plan_at {G : Gm} {goal p : Nat} (H : Ok G) (hg : goal < 2 ^ G.own.length) (hp : p < G.own.length) {x y r : Int} (hx : (plL G 0 (suP (rkL G goal)))[p]? = some x) (hy : (plL G 1 (suF (rkL G goal)))[p]? = some y) (hr : (rkL G goal)[p]? = some r) {dw : Int} (hw : G.own[p]? = some dw) :
    (dw = 0 ∧ 0 < r ∧ y = -1 ∧ ∃ (t : Nat) (rt : Int), x = (t : Int) ∧ t < G.own.length ∧ (t : Int) ∈ G.row p ∧ (rkL G goal)[t]? = some rt ∧ 0 ≤ rt ∧ rt < r) ∨ (dw = 0 ∧ r ≤ 0 ∧ x = -1 ∧ y = -1) ∨
    (dw = 1 ∧ r < 0 ∧ x = -1 ∧ ∃ (t : Nat) (rt : Int), y = (t : Int) ∧ t < G.own.length ∧ (t : Int) ∈ G.row p ∧ (rkL G goal)[t]? = some rt ∧ rt < 0) ∨ (dw = 1 ∧ 0 ≤ r ∧ x = -1 ∧ y = -1) := by
  rw [plL_at hp] at hx hy
  rw [rkL_at hp] at hr
  obtain rfl := Option.some.inj hx
  obtain rfl := Option.some.inj hy
  obtain rfl := Option.some.inj hr
  have hwho := who_at hw
  have h01 := H.who hp
  rw [hwho] at h01
  rcases h01 with rfl | rfl
  · by_cases h : 0 < rkI G goal p
    · obtain ⟨t, h1, h2, h3, h4, h5⟩ := man_yes H hg hp hwho h
      exact .inl ⟨rfl, h, duck_no H hp (by rw [hwho]; omega), t, _, h1, h2, h3, rkL_at h2, h4, h5⟩
    · exact .inr (.inl ⟨rfl, by omega, man_no H hp (by omega), duck_no H hp (by rw [hwho]; omega)⟩)
  · by_cases h : rkI G goal p < 0
    · obtain ⟨t, h1, h2, h3, h4⟩ := duck_yes H hg hp hwho h
      exact .inr (.inr (.inl ⟨rfl, h, man_no H hp (by rw [hwho]; omega), t, _, h1, h2, h3, rkL_at h2, h4⟩))
    · exact .inr (.inr (.inr ⟨rfl, by omega, man_no H hp (by rw [hwho]; omega), duck_no H hp (by omega)⟩))
set_option maxRecDepth 4000 in
set_option maxHeartbeats 3200000 in
theorem LurePlans_walk (g : Gv) (A : Option Addr) (c : Nat) (L : List Int) (w : World) (hr : RdG w w.heap.size g) (hf : Gfit g) (hqL : Rd w w.heap.size A (ints L)) (hlL : L.length ≤ c) (hcL : c ≤ maxLen) :
    Calls Try.prog 9 #[g.v, .slice A L.length c] w fun e w' => e = .returned (.bool true) ∧ Below w.heap.size w w' := by
  obtain ⟨W, hW, p0, p1, hz, hb, hr1⟩ := box_game w g 25 hr
  have B0 := Lib.hid hb
  have RG0 := Lib.hid hr1
  have HLg := Lib.hid (Large_any g W hr1 hf)
  have L_0 := Lib.hid (hqL.up hb)
  have hmL : L.length ≤ 9223372036854775807 := by unfold maxLen at hcL; omega
  clear hr hb hr1 hqL hlL hcL
  cases hbl : largeB g
  · obtain ⟨n100, r100, rr100⟩ := large_fit hbl
    rw [hbl] at HLg
    by_cases hlongL : 100 < L.length
    · have eL : decide ((100 : Int) < (L.length : Int)) = true := by rw [decide_eq_true_eq]; omega
      clear hlongL n100 r100 rr100
      clear hf hbl
      unfold Gv.v at HLg ⊢
      obtain ⟨A0, c0, own, A1, c1, rs⟩ := g
      simp only at hW p0 p1 HLg ⊢
      go_enter Try.func9, Try.ntmps9
      go_wp2_with fail
      refine (HLg.out).mono ?_
      rintro e w1 ⟨rfl, hb⟩
      have B1 := Lib.hid (B0.out.trans (hb.mono B0.out.size))
      clear hb
      go_wp2_with fail
      refine (known_ok w1).mono ?_
      rintro e w2 ⟨rfl, hb⟩
      have B2 := Lib.hid (B1.out.trans (hb.mono B1.out.size))
      clear hb
      go_wp2_with fail
      go_ret
      exact ⟨rfl, B2.out⟩
    · have eL : decide ((100 : Int) < (L.length : Int)) = false := by rw [decide_eq_false_iff_not]; omega
      have h100L : L.length ≤ 100 := by omega
      clear hlongL
      have C1 := Lib.hid (fun w h q => Plan_any g A c L w h hf q hmL)
      have C2 := Lib.hid (fun w h q => Flee_any g A c L w h hf q hmL)
      have C3 := Lib.hid (fun w h q => rRanks_any g A c L w h hf q hmL)
      by_cases hV : askE g.G L = 0
      · obtain ⟨hG0, hs⟩ := askE_zero hV
        have H := gE_zero hG0
        have hg : gatN L < 2 ^ g.G.own.length := gat_lt hs (by have := H.le; omega)
        have e1 : plaL g.G L = plL g.G 0 (suP (rkL g.G (gatN L))) := if_pos hV
        have e2 : fleL g.G L = plL g.G 1 (suF (rkL g.G (gatN L))) := if_pos hV
        have e3 : ranL g.G L = rkL g.G (gatN L) := if_pos hV
        rw [e1, hV] at C1
        rw [e2, hV] at C2
        rw [e3, hV] at C3
        have HAt := Lib.hid (fun p hp => fun {x y r dw : Int} hx hy hr hw => plan_at (p := p) (x := x) (y := y) (r := r) (dw := dw) H hg hp hx hy hr hw)
        have HLn := Lib.hid (show (plL g.G 0 (suP (rkL g.G (gatN L)))).length = g.own.length ∧ (plL g.G 1 (suF (rkL g.G (gatN L)))).length = g.own.length ∧ (rkL g.G (gatN L)).length = g.own.length ∧ g.rs.length = g.own.length ∧ g.own.length ≤ 16 from ⟨plL_len _ _ _, plL_len _ _ _, rkL_len _ _, by have := H.len; simp [Gv.G] at this; exact this, H.le⟩)
        have HRo := Lib.hid (fun (k : Nat) A c l (h : g.rs[k]? = some ⟨A, c, l⟩) => (row_of h : g.G.row k = l))
        have HFt := Lib.hid (show ∀ r ∈ g.rs, r.l.length ≤ 9223372036854775807 from fun r hr => by have := hf.rs r hr; unfold maxLen at this; omega)
        have eo : g.G.own = g.own := rfl
        rw [eo] at HAt
        clear hf hbl n100 r100 rr100 hV hG0 hs H hg e1 e2 e3 eo
        generalize plL g.G 0 (suP (rkL g.G (gatN L))) = X at *
        generalize plL g.G 1 (suF (rkL g.G (gatN L))) = Y at *
        generalize rkL g.G (gatN L) = Z at *
        generalize g.G = G at *
        unfold Gv.v at HLg C1 C2 C3 ⊢
        obtain ⟨A0, c0, own, A1, c1, rs⟩ := g
        simp only at hW p0 p1 HLg HAt HLn HRo HFt C1 C2 C3 ⊢
        go_enter Try.func9, Try.ntmps9
        go_wp2_with fail
        refine (HLg.out).mono ?_
        rintro e w1 ⟨rfl, hb⟩
        have B1 := Lib.hid (B0.out.trans (hb.mono B0.out.size))
        have RG1 := Lib.hid (RG0.out.up hb)
        have L_1 := Lib.hid (L_0.out.up hb)
        have q0_1 := cell_keep p0 hb hz
        have q1_1 := cell_keep p1 hb hz
        have z1 : w.heap.size < w1.heap.size := Nat.lt_of_lt_of_le hz hb.size
        clear p0 p1 hz hW
        clear hb
        go_wp2_with fail
        refine (C1.out w1 RG1.out L_1.out).mono ?_
        rintro e w2 ⟨A3, c3, rfl, hc3, hfA3, hrA3, hb⟩
        have B2 := Lib.hid (B1.out.trans (hb.mono B1.out.size))
        have RG2 := Lib.hid (RG1.out.up hb)
        have L_2 := Lib.hid (L_1.out.up hb)
        have q0_2 := cell_keep q0_1 hb z1
        have q1_2 := cell_keep q1_1 hb z1
        have z2 : w.heap.size < w2.heap.size := Nat.lt_of_lt_of_le z1 hb.size
        clear q0_1 q1_1 z1
        clear hb
        have X_2 := Lib.hid hrA3
        clear hfA3 hrA3
        go_wp2_with fail
        refine (C2.out w2 RG2.out L_2.out).mono ?_
        rintro e w3 ⟨A4, c4, rfl, hc4, hfA4, hrA4, hb⟩
        have B3 := Lib.hid (B2.out.trans (hb.mono B2.out.size))
        have RG3 := Lib.hid (RG2.out.up hb)
        have L_3 := Lib.hid (L_2.out.up hb)
        have X_3 := Lib.hid (X_2.out.up hb)
        have q0_3 := cell_keep q0_2 hb z2
        have q1_3 := cell_keep q1_2 hb z2
        have z3 : w.heap.size < w3.heap.size := Nat.lt_of_lt_of_le z2 hb.size
        clear q0_2 q1_2 z2
        clear hb
        have Y_3 := Lib.hid hrA4
        clear hfA4 hrA4
        go_wp2_with fail
        refine (C3.out w3 RG3.out L_3.out).mono ?_
        rintro e w4 ⟨A5, c5, rfl, hc5, hfA5, hrA5, hb⟩
        have B4 := Lib.hid (B3.out.trans (hb.mono B3.out.size))
        have RG4 := Lib.hid (RG3.out.up hb)
        have L_4 := Lib.hid (L_3.out.up hb)
        have X_4 := Lib.hid (X_3.out.up hb)
        have Y_4 := Lib.hid (Y_3.out.up hb)
        have q0_4 := cell_keep q0_3 hb z3
        have q1_4 := cell_keep q1_3 hb z3
        have z4 : w.heap.size < w4.heap.size := Nat.lt_of_lt_of_le z3 hb.size
        clear q0_3 q1_3 z3
        clear hb
        have Z_4 := Lib.hid hrA5
        clear hfA5 hrA5
        have Q0 := Lib.hid q0_4
        have Q1 := Lib.hid q1_4
        have q0 := q0_4
        have q1 := q1_4
        have lx : ((X.length : Int) != (Z.length : Int)) = false := by have := HLn.out; rw [bne_eq_false_iff_eq]; omega
        have lx2 : (X.length != Z.length) = false := by have := HLn.out; rw [bne_eq_false_iff_eq]; omega
        have ly : ((Y.length : Int) != (Z.length : Int)) = false := by have := HLn.out; rw [bne_eq_false_iff_eq]; omega
        have ly2 : (Y.length != Z.length) = false := by have := HLn.out; rw [bne_eq_false_iff_eq]; omega
        go_wp2_with fail
        clear lx lx2 ly ly2
        go_loopw [11] (fun i wr => ∃ (k : Nat) (m : Nat), k ≤ Z.length ∧ i = .int .i64 k ∧ wr = w4.drewN m) (fun i _ => Z.length - (intOf i).toNat)
        case atStart => exact ⟨0, 0, by omega, rfl, rfl⟩
        case round =>
          obtain ⟨p, m, hp, rfl, rfl⟩ := hrel
          by_cases hlt : p < Z.length
          · have hlen := HLn.out
            obtain ⟨bx, ox, x, hA3, hx, cx⟩ := X_4.out.int p (by omega)
            obtain ⟨by', oy, y, hA4, hy, cy⟩ := Y_4.out.int p (by omega)
            obtain ⟨bz, oz, r, hA5, hr, cr⟩ := Z_4.out.int p hlt
            obtain ⟨bo, oo, dw, hA0, hdw, cw⟩ := RG4.out.o.int p (show p < own.length by omega)
            obtain ⟨bm, om, A', c', l, hA1, hrow, cl, hl⟩ := RG4.out.r.row p (show p < rs.length by omega)
            simp only at hA0 hA1 hdw hrow
            have hway := HAt.out p (by omega) hx.out hy.out hr.out hdw.out
            have HRow := Lib.hid (HRo.out p _ _ _ hrow.out)
            subst hA3 hA4 hA5 hA0 hA1
            have f0 : (0 : Int) ≤ (p : Int) := by omega
            have fx : (p : Int) < (X.length : Int) := by omega
            have fy : (p : Int) < (Y.length : Int) := by omega
            have fz : (p : Int) < (Z.length : Int) := by omega
            have fo : (p : Int) < (own.length : Int) := by omega
            have fm : (p : Int) < (rs.length : Int) := by omega
            have LN := Lib.hid hlen
            have hz16 : Z.length ≤ 16 := by omega
            clear hlen
            rcases hway with ⟨rfl, h1, rfl, t, rt, rfl, ht, hmem, hrt, h2, h3⟩ | ⟨rfl, h1, rfl, rfl⟩ | ⟨rfl, h1, rfl, t, rt, rfl, ht, hmem, hrt, h2⟩ | ⟨rfl, h1, rfl, rfl⟩
            · have e1 : decide (0 < r) = true := by simpa using h1
              have e2 : decide (r < 0) = false := by rw [decide_eq_false_iff_not]; omega
              rw [HRow.out] at hmem
              have HQ := Lib.hid (fun w (h : Rd w w.heap.size A' (ints l)) => Has_any A' c' l (t : Int) w h (HFt.out _ (List.mem_of_getElem? hrow.out)))
              rw [show decide ((t : Int) ∈ l) = true from decide_eq_true hmem] at HQ
              obtain ⟨bz2, oz2, rt2, hA5, hrt2, crt⟩ := Z_4.out.int t (by have := LN.out; omega)
              cases hA5
              obtain rfl := Option.some.inj (hrt.symm.trans hrt2.out)
              have g0 : (0 : Int) ≤ (t : Int) := by omega
              have g1 : (t : Int) < (Z.length : Int) := by have := LN.out; omega
              have e3 : decide (rt < 0) = false := by rw [decide_eq_false_iff_not]; omega
              have e4 : decide (r ≤ rt) = false := by rw [decide_eq_false_iff_not]; omega
              have hlR := hl.out
              clear h1 h2 h3 hmem ht hrt
              go_wp2_with fail
              go_quiet ((go_at_call 34; exact qs (HQ.out _ hlR)))
              go_wp2_with fail
              go_quiet (fail)
              go_wp2_with fail
              go_roundw
              case rel => exact ⟨p + 1, _, by omega, by go_num, rfl⟩
              case measure => simp [intOf]; omega
            · have e1 : decide (0 < r) = false := by rw [decide_eq_false_iff_not]; omega
              clear h1
              go_wp2_with fail
              go_quiet (fail)
              go_wp2_with fail
              go_quiet (fail)
              go_wp2_with fail
              go_roundw
              case rel => exact ⟨p + 1, _, by omega, by go_num, rfl⟩
              case measure => simp [intOf]; omega
            · have e2 : decide (r < 0) = true := by simpa using h1
              rw [HRow.out] at hmem
              have HQ := Lib.hid (fun w (h : Rd w w.heap.size A' (ints l)) => Has_any A' c' l (t : Int) w h (HFt.out _ (List.mem_of_getElem? hrow.out)))
              rw [show decide ((t : Int) ∈ l) = true from decide_eq_true hmem] at HQ
              obtain ⟨bz2, oz2, rt2, hA5, hrt2, crt⟩ := Z_4.out.int t (by have := LN.out; omega)
              cases hA5
              obtain rfl := Option.some.inj (hrt.symm.trans hrt2.out)
              have g0 : (0 : Int) ≤ (t : Int) := by omega
              have g1 : (t : Int) < (Z.length : Int) := by have := LN.out; omega
              have e3 : decide (0 ≤ rt) = false := by rw [decide_eq_false_iff_not]; omega
              have hlR := hl.out
              clear h1 h2 hmem ht hrt
              go_wp2_with fail
              go_quiet (fail)
              go_wp2_with fail
              go_quiet ((go_at_call 34; exact qs (HQ.out _ hlR)))
              go_wp2_with fail
              go_roundw
              case rel => exact ⟨p + 1, _, by omega, by go_num, rfl⟩
              case measure => simp [intOf]; omega
            · have e2 : decide (r < 0) = false := by rw [decide_eq_false_iff_not]; omega
              clear h1
              go_wp2_with fail
              go_quiet (fail)
              go_wp2_with fail
              go_quiet (fail)
              go_wp2_with fail
              go_roundw
              case rel => exact ⟨p + 1, _, by omega, by go_num, rfl⟩
              case measure => simp [intOf]; omega
          · have hks : p = Z.length := by omega
            have b3 : decide ((p : Int) < (Z.length : Int)) = false := by rw [decide_eq_false_iff_not]; omega
            have b4 : decide (p < Z.length) = false := by rw [decide_eq_false_iff_not]; exact hlt
            have BB := Lib.hid (bdN B4.out m)
            clear hlt hks
            go_wp2_with fail
            refine (known_ok _).mono ?_
            rintro e w9 ⟨rfl, hb⟩
            go_wp2_with fail
            go_ret
            exact ⟨rfl, BB.out.trans (hb.mono BB.out.size)⟩
      · have e1 : plaL g.G L = [] := if_neg hV
        have e2 : fleL g.G L = [] := if_neg hV
        rw [e1] at C1
        rw [e2] at C2
        obtain ⟨V, hVe⟩ : ∃ V, askE g.G L = V := ⟨_, rfl⟩
        rw [hVe] at hV C1 C2 C3
        have hb1 : (V == 0) = false := by simpa using hV
        have hb2 : (V != 0) = true := by simpa using hV
        have hb3 : (V != V) = false := by simp
        clear hf hbl n100 r100 rr100 hV hVe e1 e2
        generalize ranL g.G L = Z at *
        unfold Gv.v at HLg C1 C2 C3 ⊢
        obtain ⟨A0, c0, own, A1, c1, rs⟩ := g
        simp only at hW p0 p1 HLg C1 C2 C3 ⊢
        go_enter Try.func9, Try.ntmps9
        go_wp2_with fail
        refine (HLg.out).mono ?_
        rintro e w1 ⟨rfl, hb⟩
        have B1 := Lib.hid (B0.out.trans (hb.mono B0.out.size))
        have RG1 := Lib.hid (RG0.out.up hb)
        have L_1 := Lib.hid (L_0.out.up hb)
        have q0_1 := cell_keep p0 hb hz
        have q1_1 := cell_keep p1 hb hz
        have z1 : w.heap.size < w1.heap.size := Nat.lt_of_lt_of_le hz hb.size
        clear p0 p1 hz hW
        clear hb
        go_wp2_with fail
        refine (C1.out w1 RG1.out L_1.out).mono ?_
        rintro e w2 ⟨A3, c3, rfl, hc3, hfA3, hrA3, hb⟩
        have B2 := Lib.hid (B1.out.trans (hb.mono B1.out.size))
        have RG2 := Lib.hid (RG1.out.up hb)
        have L_2 := Lib.hid (L_1.out.up hb)
        have q0_2 := cell_keep q0_1 hb z1
        have q1_2 := cell_keep q1_1 hb z1
        have z2 : w.heap.size < w2.heap.size := Nat.lt_of_lt_of_le z1 hb.size
        clear q0_1 q1_1 z1
        clear hb
        have X_2 := Lib.hid hrA3
        clear hfA3 hrA3
        go_wp2_with fail
        refine (C2.out w2 RG2.out L_2.out).mono ?_
        rintro e w3 ⟨A4, c4, rfl, hc4, hfA4, hrA4, hb⟩
        have B3 := Lib.hid (B2.out.trans (hb.mono B2.out.size))
        have RG3 := Lib.hid (RG2.out.up hb)
        have L_3 := Lib.hid (L_2.out.up hb)
        have X_3 := Lib.hid (X_2.out.up hb)
        have q0_3 := cell_keep q0_2 hb z2
        have q1_3 := cell_keep q1_2 hb z2
        have z3 : w.heap.size < w3.heap.size := Nat.lt_of_lt_of_le z2 hb.size
        clear q0_2 q1_2 z2
        clear hb
        have Y_3 := Lib.hid hrA4
        clear hfA4 hrA4
        go_wp2_with fail
        refine (C3.out w3 RG3.out L_3.out).mono ?_
        rintro e w4 ⟨A5, c5, rfl, hc5, hfA5, hrA5, hb⟩
        have B4 := Lib.hid (B3.out.trans (hb.mono B3.out.size))
        have RG4 := Lib.hid (RG3.out.up hb)
        have L_4 := Lib.hid (L_3.out.up hb)
        have X_4 := Lib.hid (X_3.out.up hb)
        have Y_4 := Lib.hid (Y_3.out.up hb)
        have q0_4 := cell_keep q0_3 hb z3
        have q1_4 := cell_keep q1_3 hb z3
        have z4 : w.heap.size < w4.heap.size := Nat.lt_of_lt_of_le z3 hb.size
        clear q0_3 q1_3 z3
        clear hb
        have Z_4 := Lib.hid hrA5
        clear hfA5 hrA5
        go_wp2_with fail
        refine (known_ok w4).mono ?_
        rintro e w5 ⟨rfl, hb⟩
        have B5 := Lib.hid (B4.out.trans (hb.mono B4.out.size))
        have RG5 := Lib.hid (RG4.out.up hb)
        have L_5 := Lib.hid (L_4.out.up hb)
        have X_5 := Lib.hid (X_4.out.up hb)
        have Y_5 := Lib.hid (Y_4.out.up hb)
        have Z_5 := Lib.hid (Z_4.out.up hb)
        have q0_5 := cell_keep q0_4 hb z4
        have q1_5 := cell_keep q1_4 hb z4
        have z5 : w.heap.size < w5.heap.size := Nat.lt_of_lt_of_le z4 hb.size
        clear q0_4 q1_4 z4
        clear hb
        go_wp2_with fail
        go_ret
        exact ⟨rfl, B5.out⟩
  · rw [hbl] at HLg
    clear hf hbl
    unfold Gv.v at HLg ⊢
    obtain ⟨A0, c0, own, A1, c1, rs⟩ := g
    simp only at hW p0 p1 HLg ⊢
    go_enter Try.func9, Try.ntmps9
    go_wp2_with fail
    refine (HLg.out).mono ?_
    rintro e w1 ⟨rfl, hb⟩
    have B1 := Lib.hid (B0.out.trans (hb.mono B0.out.size))
    clear hb
    go_wp2_with fail
    refine (known_ok w1).mono ?_
    rintro e w2 ⟨rfl, hb⟩
    have B2 := Lib.hid (B1.out.trans (hb.mono B1.out.size))
    clear hb
    go_wp2_with fail
    go_ret
    exact ⟨rfl, B2.out⟩
end Go.Proofs.Ytibcjkpfpiamkaa

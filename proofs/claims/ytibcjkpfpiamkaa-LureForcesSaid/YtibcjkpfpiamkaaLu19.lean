/-
  Traps: the walk of CheckTrap of the reference. Conditions: the game and the lists can be read.
-/
import Derived.Test.YtibcjkpfpiamkaaLu18
namespace Go.Proofs.Ytibcjkpfpiamkaa
open Go.RowKit
set_option linter.unusedVariables false

theorem andn_inn {n S : Nat} {L : List Int} (hs : setL n L = true) (hn : n ≤ 32) (hS : S < 4294967296) : (bits .andNot .i64 ((gatN L : Nat) : Int) (S : Int) != 0) = !inn S L := by
  have hg : gatN L < 4294967296 := bit32 _
  rw [i64_andNot_nat _ _ (by omega) (by omega), ← li_inn hs hn hS]
  have key : dif (gatN L) S = 0 ↔ liB (gatN L) S = true := by
    rw [li_sub hg hS]
    constructor
    · intro h j hj
      have h1 : (dif (gatN L) S).testBit j = false := by rw [h]; exact Nat.zero_testBit j
      rw [dif_test (by omega) (by omega), hj, Bool.true_and] at h1
      simpa using h1
    · intro h
      apply Nat.eq_of_testBit_eq
      intro j
      rw [Nat.zero_testBit, dif_test (by omega) (by omega)]
      cases hj : (gatN L).testBit j
      · rfl
      · rw [h j hj]; rfl
  cases hl : liB (gatN L) S
  · have : dif (gatN L) S ≠ 0 := fun h => by rw [key.1 h] at hl; cases hl
    show _ = true
    rw [bne_iff_ne]
    intro h2
    exact this (by exact_mod_cast h2)
  · rw [key.2 hl]; rfl
theorem and0_hit {n S : Nat} {L : List Int} (hs : setL n L = true) (hn : n ≤ 32) (hS : S < 4294967296) : (bits .and .i64 ((gatN L : Nat) : Int) (S : Int) == 0) = !hit S L := by
  have h := and_hit hs hn hS
  rw [bne] at h
  rw [← h, Bool.not_not]
theorem tr_no {G : Gm} {goal T p : Nat} (hT : T < 2 ^ G.own.length) (hp : T.testBit p = true) (h : ¬ (goal.testBit p = false ∧ fcB G 1 T p = true)) : trB G goal T = false := by
  cases hb : trB G goal T
  · rfl
  · exact absurd ((trB_iff hT).1 hb p hp) h
theorem tr_mem {n : Nat} {T : List Int} (hT : setL n T = true) (hn : n ≤ 32) {d : Int} (hd : d ∈ T) : (gatN T).testBit d.toNat = true := by
  have h1 := set_mem hT hd
  rw [gat_at hT hn, memB_iff, show ((d.toNat : Nat) : Int) = d by omega]
  exact hd
theorem tr_goal {G : Gm} {L T : List Int} (h16 : G.own.length ≤ 16) (hT : setL G.own.length T = true) (h : hit (gatN L) T = true) : trB G (gatN L) (gatN T) = false := by
  obtain ⟨d, hd, hb⟩ := List.any_eq_true.1 h
  refine tr_no (p := d.toNat) (gat_lt hT (by omega)) (tr_mem hT (by omega) hd) fun hx => ?_
  rw [hx.1] at hb
  cases hb
theorem tr_one {G : Gm} {goal : Nat} {T : List Int} (h16 : G.own.length ≤ 16) (hT : setL G.own.length T = true) {k p : Nat} (hk : T[k]? = some (p : Int)) (h : fcB G 1 (gatN T) p = false) : trB G goal (gatN T) = false := by
  have hm := tr_mem hT (by omega) (List.mem_of_getElem? hk)
  rw [Int.toNat_natCast] at hm
  refine tr_no (p := p) (gat_lt hT (by omega)) hm fun hx => ?_
  rw [hx.2] at h
  cases h
theorem tr_all {G : Gm} {L T : List Int} (h16 : G.own.length ≤ 16) (hT : setL G.own.length T = true) (hg : hit (gatN L) T = false) (h : ∀ (j : Nat) d, j < T.length → T[j]? = some d → fcB G 1 (gatN T) d.toNat = true) : trB G (gatN L) (gatN T) = true := by
  rw [trB_iff (gat_lt hT (by omega))]
  intro p hp
  rw [gat_at hT (by omega), memB_iff] at hp
  obtain ⟨j, hj, he⟩ := List.getElem_of_mem hp
  have h1 := h j p hj (by rw [← he]; exact List.getElem?_eq_getElem hj)
  rw [Int.toNat_natCast] at h1
  refine ⟨?_, h1⟩
  unfold hit at hg
  rw [List.any_eq_false] at hg
  have := hg _ hp
  rw [Int.toNat_natCast] at this
  simpa using this
theorem ct_set {G : Gm} {L T : List Int} (h : askE G L = 0) (hs : setL G.own.length T = false) : ctE G L T = 1 := by
  unfold ctE
  rw [if_pos h, if_neg (by rw [hs]; decide)]
theorem ct_val {G : Gm} {L T : List Int} (h : askE G L = 0) (hs : setL G.own.length T = true) : ctE G L T = (if trB G (gatN L) (gatN T) = true then 0 else 7) := by
  unfold ctE
  rw [if_pos h, if_pos hs]
theorem ct_no {G : Gm} {L T : List Int} (h : ¬ askE G L = 0) : ctE G L T = askE G L := if_neg h
set_option maxRecDepth 4000 in
set_option maxHeartbeats 3200000 in
theorem rCheckTrap_any (g : Gv) (A : Option Addr) (c : Nat) (L : List Int) (A2 : Option Addr) (c2 : Nat) (T : List Int) (w : World) (hr : RdG w w.heap.size g) (hf : Gfit g) (hq : Rd w w.heap.size A (ints L)) (hn : L.length ≤ 9223372036854775807) (hq2 : Rd w w.heap.size A2 (ints T)) (hn2 : T.length ≤ 9223372036854775807) :
    Calls Try.prog 33 #[g.v, .slice A L.length c, .slice A2 T.length c2] w fun e w' => e = .returned (.int .i64 (ctE g.G L T)) ∧ Below w.heap.size w w' := by
  obtain ⟨W, hW, p0, p1, hz, hb, hr1⟩ := box_game w g 25 hr
  have R1 := Lib.hid (hq.up hb)
  have S1 := Lib.hid (hq2.up hb)
  have B0 := Lib.hid hb
  have HCh := Lib.hid (asked_any g A c L W hr1 hf R1.out hn)
  have hn0 : g.own.length ≤ 9223372036854775807 := by have := hf.n0; have := hf.m0; unfold maxLen at this; omega
  have HIs := Lib.hid (fun w h => risSet_any A2 c2 T g.own.length ((g.own.length : Int) - 1) w h hn2 (by omega) (by omega) (by omega))
  by_cases hE : askE g.G L = 0
  · obtain ⟨hG0, hs⟩ := askE_zero hE
    have h16 : g.G.own.length ≤ 16 := (gE_zero hG0).le
    rw [hE] at HCh
    have e : g.G.own = g.own := rfl
    cases hsT : setL g.G.own.length T
    · have HE := Lib.hid (ct_set (T := T) hE hsT)
      rw [e] at hsT
      rw [hsT] at HIs
      clear hr hf hq hn hq2 hn2 hb hr1 hE hG0 hs h16 e hsT
      unfold Gv.v at HCh ⊢
      generalize g.G = G at *
      obtain ⟨A0, c0, own, A1, c1, rs⟩ := g
      simp only at hW p0 p1 HCh HIs hn0 ⊢
      go_enter Try.func33, Try.ntmps33
      go_wp2_with fail
      refine (HCh.out).mono ?_
      rintro e w3 ⟨rfl, hb⟩
      have B3 := Lib.hid (B0.out.trans (hb.mono B0.out.size))
      have S3 := Lib.hid (S1.out.up hb)
      have r0 := cell_keep p0 hb hz
      clear hb p0 p1 hW
      go_wp2_with fail
      refine (HIs.out w3 S3.out).mono ?_
      rintro e w' ⟨rfl, m, rfl⟩
      go_wp2_with fail
      go_ret
      exact ⟨by rw [HE.out]; rfl, bdN B3.out _⟩
    · have HV := Lib.hid (ct_val hE hsT)
      have HGo := Lib.hid (fun h => tr_goal (G := g.G) (L := L) h16 hsT h)
      have HOne := Lib.hid (fun k p h1 h2 => tr_one (G := g.G) (goal := gatN L) h16 hsT (k := k) (p := p) h1 h2)
      have HAll := Lib.hid (fun hg h => tr_all (G := g.G) (L := L) h16 hsT hg h)
      rw [e] at hsT h16 hs
      have HSet := Lib.hid hsT
      have HG := Lib.hid (fun w h => bits_any A c L g.own.length w h hn hs (by omega))
      have HG2 := Lib.hid (fun w h => bits_any A2 c2 T g.own.length w h hn2 hsT (by omega))
      have hgl : gatN L < 4294967296 := bit32 _
      have htl : gatN T < 4294967296 := bit32 _
      have hm := and_hit (S := gatN L) hsT (by omega) hgl
      obtain ⟨W', hl⟩ := laid_of w g hr hf hG0
      obtain rfl : W' = W := hl.hW.symm.trans hW
      have LA := Lib.hid hl
      rw [hsT] at HIs
      clear hr hf hq hn hq2 hb hr1 hE hG0 hs h16 e hsT hl
      unfold Gv.v at HCh ⊢
      generalize g.G = G at *
      obtain ⟨A0, c0, own, A1, c1, rs⟩ := g
      simp only at hW p0 p1 HCh HIs hn0 LA HSet HG HG2 ⊢
      have hn16 := LA.out.le
      cases hh : hit (gatN L) T
      · rw [hh] at hm
        have HAll2 := Lib.hid (HAll.out hh)
        clear HAll HGo hh
        go_enter Try.func33, Try.ntmps33
        go_wp2_with fail
        refine (HCh.out).mono ?_
        rintro e w3 ⟨rfl, hb⟩
        have B3 := Lib.hid (B0.out.trans (hb.mono B0.out.size))
        have R3 := Lib.hid (R1.out.up hb)
        have S3 := Lib.hid (S1.out.up hb)
        have r0 := cell_keep p0 hb hz
        have r1 := cell_keep p1 hb hz
        have O3 := Lib.hid (LA.out.r0.up hb)
        have M3 := Lib.hid (LA.out.r1.up hb)
        clear hb p0 p1 hW
        go_wp2_with fail
        refine (HIs.out w3 S3.out).mono ?_
        rintro e w' ⟨rfl, m, rfl⟩
        go_wp2_with fail
        refine (HG2.out (w3.drewN m) S3.out).mono ?_
        rintro e w' ⟨rfl, rfl⟩
        go_wp2_with fail
        refine (HG.out (w3.drewN m) R3.out).mono ?_
        rintro e w' ⟨rfl, rfl⟩
        go_wp2_with fail
        go_loopw [9] (fun i wr => ∃ (k : Nat) (m2 : Nat), k ≤ T.length ∧ i = .int .i64 k ∧ (∀ (j : Nat) d, j < k → T[j]? = some d → fcB G 1 (gatN T) d.toNat = true) ∧ wr = w3.drewN m2) (fun i _ => T.length - (intOf i).toNat)
        case atStart => exact ⟨0, _, by omega, rfl, fun j d hj => by omega, rfl⟩
        case round =>
          obtain ⟨k, m2, hk, rfl, hall, rfl⟩ := hrel
          have HA := Lib.hid hall
          clear hall
          by_cases hlt : k < T.length
          · obtain ⟨b, o, d, rfl, hd, hc⟩ := S3.out.int k hlt
            have hdl := set_in HSet.out hd.out
            obtain ⟨p, rfl⟩ := Int.eq_ofNat_of_zero_le hdl.1
            obtain ⟨bo, oo, dw, hA0, hdw, hcw⟩ := O3.out.int p (by omega)
            obtain ⟨bm, om, A', c', l, hA1, hx, hc', hl⟩ := M3.out.row p (by have := LA.out.len; omega)
            subst hA0 hA1
            have f0 : (0 : Int) ≤ (p : Int) := by omega
            have hkr : (p : Int) < (rs.length : Int) := by have := LA.out.len; omega
            have hko : (p : Int) < (own.length : Int) := by omega
            have hset := LA.out.set p _ _ _ hx.out
            have hll := LA.out.fit _ (List.mem_of_getElem? hx.out)
            simp only at hll
            have hwho := LA.out.who p dw hdw.out
            have hfc := LA.out.fc p _ _ _ dw 1 (gatN T) hx.out hdw.out
            have ei := andn_inn (S := gatN T) hset (by omega) htl
            have eh := and0_hit (S := gatN T) hset (by omega) htl
            have HQ := Lib.hid (fun w h => bits_any A' c' l own.length w h hll hset (by omega))
            have HBad := Lib.hid (HOne.out k p hd.out)
            have HNx := Lib.hid (fun (h : fcB G 1 (gatN T) p = true) => each_next (p := fun d => fcB G 1 (gatN T) d.toNat) hd.out (by simpa using h) HA.out)
            clear hset hll hdl
            rcases hwho with hw | hw
            · subst hw
              rw [if_neg (by decide)] at hfc
              clear eh
              cases hin : inn (gatN T) l
              · rw [hin] at ei
                have hv := HV.out
                rw [HBad.out (by rw [hfc, hin])] at hv
                have HE := Lib.hid (show ctE G L T = 7 from hv)
                clear hfc hin hv
                go_wp2_with fail
                go_quiet ((go_at_call 54; exact qs (HQ.out _ hl.out)))
                go_wp2_with fail
                go_quiet (fail)
                go_wp2_with fail
                go_ret
                exact ⟨by rw [HE.out]; rfl, by first | exact bdN B3.out _ | exact bdN (bdN B3.out _) _ | exact bdN (bdN (bdN B3.out _) _) _⟩
              · rw [hin] at ei
                have HN := Lib.hid (HNx.out (by rw [hfc, hin]))
                clear hfc hin
                go_wp2_with fail
                go_quiet ((go_at_call 54; exact qs (HQ.out _ hl.out)))
                go_wp2_with fail
                go_quiet (fail)
                go_wp2_with fail
                go_roundw
                case rel => exact ⟨k + 1, _, by omega, by go_num, HN.out, rfl⟩
                case measure => simp [intOf]; omega
            · subst hw
              rw [if_pos rfl] at hfc
              clear ei
              cases hin : hit (gatN T) l
              · rw [hin] at eh
                have hv := HV.out
                rw [HBad.out (by rw [hfc, hin])] at hv
                have HE := Lib.hid (show ctE G L T = 7 from hv)
                clear hfc hin hv
                go_wp2_with fail
                go_quiet ((go_at_call 54; exact qs (HQ.out _ hl.out)))
                go_wp2_with fail
                go_quiet (fail)
                go_wp2_with fail
                go_ret
                exact ⟨by rw [HE.out]; rfl, by first | exact bdN B3.out _ | exact bdN (bdN B3.out _) _ | exact bdN (bdN (bdN B3.out _) _) _⟩
              · rw [hin] at eh
                have HN := Lib.hid (HNx.out (by rw [hfc, hin]))
                clear hfc hin
                go_wp2_with fail
                go_quiet ((go_at_call 54; exact qs (HQ.out _ hl.out)))
                go_wp2_with fail
                go_quiet (fail)
                go_wp2_with fail
                go_roundw
                case rel => exact ⟨k + 1, _, by omega, by go_num, HN.out, rfl⟩
                case measure => simp [intOf]; omega
          · have hks : k = T.length := by omega
            have hv := HV.out
            rw [HAll2.out (by rw [← hks]; exact HA.out)] at hv
            have HE := Lib.hid (show ctE G L T = 0 from hv)
            have b3 : decide ((k : Int) < (T.length : Int)) = false := by rw [decide_eq_false_iff_not]; omega
            have b4 : decide (k < T.length) = false := by rw [decide_eq_false_iff_not]; exact hlt
            clear hks hv
            go_wp2_with fail
            go_ret
            exact ⟨by rw [HE.out]; rfl, by first | exact bdN B3.out _ | exact bdN (bdN B3.out _) _ | exact bdN (bdN (bdN B3.out _) _) _⟩
      · rw [hh] at hm
        have hv := HV.out
        rw [HGo.out hh] at hv
        have HE := Lib.hid (show ctE G L T = 7 from hv)
        clear hh hv HAll HGo
        go_enter Try.func33, Try.ntmps33
        go_wp2_with fail
        refine (HCh.out).mono ?_
        rintro e w3 ⟨rfl, hb⟩
        have B3 := Lib.hid (B0.out.trans (hb.mono B0.out.size))
        have R3 := Lib.hid (R1.out.up hb)
        have S3 := Lib.hid (S1.out.up hb)
        have r0 := cell_keep p0 hb hz
        clear hb p0 p1 hW
        go_wp2_with fail
        refine (HIs.out w3 S3.out).mono ?_
        rintro e w' ⟨rfl, m, rfl⟩
        go_wp2_with fail
        refine (HG2.out (w3.drewN m) S3.out).mono ?_
        rintro e w' ⟨rfl, rfl⟩
        go_wp2_with fail
        refine (HG.out (w3.drewN m) R3.out).mono ?_
        rintro e w' ⟨rfl, rfl⟩
        go_wp2_with fail
        go_ret
        exact ⟨by rw [HE.out]; rfl, bdN B3.out _⟩
  · have HE := Lib.hid (ct_no (T := T) hE)
    generalize askE g.G L = E at *
    have hb1 : (E == 0) = false := by simpa using hE
    have hb2' : (E != 0) = true := by simpa using hE
    clear hr hf hq hn hq2 hn2 hb hr1 hE
    unfold Gv.v at HCh ⊢
    generalize g.G = G at *
    obtain ⟨A0, c0, own, A1, c1, rs⟩ := g
    simp only at hW p0 p1 HCh ⊢
    go_enter Try.func33, Try.ntmps33
    go_wp2_with fail
    refine (HCh.out).mono ?_
    rintro e w3 ⟨rfl, hb⟩
    have B3 := Lib.hid (B0.out.trans (hb.mono B0.out.size))
    clear hb
    go_wp2_with fail
    go_ret
    exact ⟨by rw [HE.out]; rfl, B3.out⟩
end Go.Proofs.Ytibcjkpfpiamkaa

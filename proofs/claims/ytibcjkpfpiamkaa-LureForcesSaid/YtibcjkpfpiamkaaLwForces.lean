/-
  The walks of the laws LureForces: they return true. Conditions: the game and the lists can be read.
-/
import Derived.Test.YtibcjkpfpiamkaaLwPlays
namespace Go.Proofs.Ytibcjkpfpiamkaa
open Go.RowKit
set_option linter.unusedVariables false

theorem pos_shift (G : Gm) (man ducks : List Int) (p : Nat) : ∀ k, posN G man ducks p (k + 1) = posN G man ducks (posN G man ducks p 1) k
  | 0 => rfl
  | k + 1 => by
    show (nxF G man ducks (posN G man ducks p (k + 1))).toNat = _
    rw [pos_shift G man ducks p k]
    rfl
section
variable {G : Gm} {goal p : Nat}
theorem lv_first (H : Ok G) (h : rkI G goal p = 0) : goal.testBit p = true := by
  have := (rk_some (k := 0) h).1
  rw [lv_one H] at this
  exact this
theorem nx_mem (H : Ok G) {man ducks : List Int} (hp : p < G.own.length) {x : Int} (hx : (if G.who p = 1 then ducks.getD p 0 else man.getD p 0) = x) (hm : x ∈ G.row p) : nxF G man ducks p = x := by
  unfold nxF
  rw [hx]
  exact if_pos hm
/-- With the plan of the man the goal is met in as many moves as the rank says. -/
theorem plan_meets (H : Ok G) (hg : goal < 2 ^ G.own.length) (ducks : List Int) : ∀ (m p : Nat), p < G.own.length → rkI G goal p = (m : Int) → ∃ k, k ≤ m ∧ goal.testBit (posN G (plL G 0 (suP (rkL G goal))) ducks p k) = true := by
  intro m
  induction m using Nat.strongRecOn with
  | _ m ih =>
    intro p hp hr
    cases m with
    | zero => exact ⟨0, Nat.le_refl _, lv_first H hr⟩
    | succ m =>
      have hnx := nx_nat H (man := plL G 0 (suP (rkL G goal))) (ducks := ducks) hp
      have hin := nx_in H (man := plL G 0 (suP (rkL G goal))) (ducks := ducks) hp
      have key : 0 ≤ rkI G goal (nxF G (plL G 0 (suP (rkL G goal))) ducks p).toNat ∧ rkI G goal (nxF G (plL G 0 (suP (rkL G goal))) ducks p).toNat ≤ (m : Int) := by
        rcases H.who hp with hw | hw
        · obtain ⟨t, h1, h2, h3, h4, h5⟩ := man_yes H hg hp hw (by omega)
          have e := nx_mem H (man := plL G 0 (suP (rkL G goal))) (ducks := ducks) (p := p) (x := (t : Int)) hp (by
            rw [hw, if_neg (by decide), List.getD_eq_getElem?_getD, plL_at hp, h1]; rfl) h3
          rw [e, Int.toNat_natCast]
          omega
        · have h2 := rk_some (k := m + 1) hr
          have e : lv G goal (m + 1 + 1) = goal ||| fcN G 0 (lv G goal (m + 1)) := rfl
          rw [e, Nat.testBit_or, fcN_at hp] at h2
          have hgoal : goal.testBit p = false := by
            cases hb : goal.testBit p
            · rfl
            · rw [goal_sub H m p hb] at h2; cases h2.2
          rw [hgoal, Bool.false_or] at h2
          have h3 := h2.1
          unfold fcB at h3
          rw [hw, if_neg (by decide)] at h3
          have := List.all_eq_true.1 h3 _ hin
          rw [rk_iff hg] at this
          exact this
      obtain ⟨q, hq⟩ := Int.eq_ofNat_of_zero_le key.1
      obtain ⟨k, hk, hb⟩ := ih q (by omega) _ hnx.2 hq
      refine ⟨k + 1, by omega, ?_⟩
      rw [pos_shift]
      exact hb
/-- With the plan of the ducks they keep free. -/
theorem flee_keeps (H : Ok G) (hg : goal < 2 ^ G.own.length) (man : List Int) (hp : p < G.own.length) (hr : rkI G goal p < 0) : ∀ k, rkI G goal (posN G man (plL G 1 (suF (rkL G goal))) p k) < 0
  | 0 => hr
  | k + 1 => by
    have ih := flee_keeps H hg man hp hr k
    have hq := pos_lt H (man := man) (ducks := plL G 1 (suF (rkL G goal))) hp k
    show rkI G goal (nxF G man (plL G 1 (suF (rkL G goal))) (posN G man (plL G 1 (suF (rkL G goal))) p k)).toNat < 0
    generalize posN G man (plL G 1 (suF (rkL G goal))) p k = q at *
    have hin := nx_in H (man := man) (ducks := plL G 1 (suF (rkL G goal))) hq
    rcases H.who hq with hw | hw
    · have hnw : ¬ (wonN G goal).testBit q = true := by
        show ¬ (lv G goal G.own.length).testBit q = true
        rw [rk_won hg]; omega
      rw [← lv_fix (G := G) hg, Nat.testBit_or, fcN_at hq, Bool.not_eq_true, Bool.or_eq_false_iff] at hnw
      have h3 := hnw.2
      unfold fcB at h3
      rw [if_pos hw] at h3
      unfold hit at h3
      rw [List.any_eq_false] at h3
      have := h3 _ hin
      have h4 := rk_none (G := G) (goal := goal) hg this
      omega
    · obtain ⟨t, h1, h2, h3, h4⟩ := duck_yes H hg hq hw ih
      have e := nx_mem H (man := man) (ducks := plL G 1 (suF (rkL G goal))) (p := q) (x := (t : Int)) hq (by
        rw [hw, if_pos rfl, List.getD_eq_getElem?_getD, plL_at hq, h1]; rfl) h3
      rw [e, Int.toNat_natCast]
      exact h4
theorem free_goal (H : Ok G) (hg : goal < 2 ^ G.own.length) (hr : rkI G goal p < 0) : goal.testBit p = false := by
  cases hb : goal.testBit p
  · rfl
  · have h1 : (lv G goal 1).testBit p = true := by rw [lv_one H]; exact hb
    rw [rk_iff hg] at h1
    omega
end
theorem ply_01 {G : Gm} {man ducks : List Int} {f m : Int} (h : gE G = 0) : plyE G man ducks f m = 0 ∨ plyE G man ducks f m = 1 := by
  rw [ply_val h]
  split
  · exact .inl rfl
  · exact .inr rfl
def hitK (L X : List Int) (k : Nat) : Bool := (X.take k).any fun d => decide (d ∈ L)
theorem hitK_next {L X : List Int} {k : Nat} {d : Int} (h : X[k]? = some d) : hitK L X (k + 1) = (hitK L X k || decide (d ∈ L)) := by
  unfold hitK
  rw [List.take_add_one, h, List.any_append]
  simp
theorem way_hit {G : Gm} {L man ducks : List Int} {p m : Nat} (hs : setL G.own.length L = true) (h16 : G.own.length ≤ 16) (h : ∃ k, k ≤ m ∧ (gatN L).testBit (posN G man ducks p k) = true) : hitK L (wayK G man ducks p m) (wayK G man ducks p m).length = true := by
  obtain ⟨k, hk, hb⟩ := h
  rw [gat_bit hs (by omega), decide_eq_true_eq] at hb
  unfold hitK
  rw [List.take_length, List.any_eq_true]
  exact ⟨_, List.mem_map.2 ⟨k, List.mem_range.2 (by omega), rfl⟩, decide_eq_true hb⟩
theorem way_miss {G : Gm} {L man ducks : List Int} {p m : Nat} (hs : setL G.own.length L = true) (h16 : G.own.length ≤ 16) (h : ∀ k, (gatN L).testBit (posN G man ducks p k) = false) {k : Nat} {d : Int} (hd : (wayK G man ducks p m)[k]? = some d) : decide (d ∈ L) = false := by
  obtain ⟨j, hj, rfl⟩ := List.mem_map.1 (List.mem_of_getElem? hd)
  rw [← gat_bit hs (by omega)]
  exact h j
/-- With the plan of the man: a way that is played hits. -/
theorem forces_hit {G : Gm} {L ducks : List Int} {p m : Nat} (h : askE G L = 0) (hp : p < G.own.length) (hr : rkI G (gatN L) p = (m : Int)) (hE : plyE G (plaL G L) ducks p m = 0) : hitK L (plyL G (plaL G L) ducks p m) (plyL G (plaL G L) ducks p m).length = true := by
  obtain ⟨hG, hs⟩ := askE_zero h
  have H := gE_zero hG
  have h16 := H.le
  have e1 : plyL G (plaL G L) ducks p m = wayK G (plaL G L) ducks p m := by unfold plyL; rw [if_pos hE]; simp
  rw [e1]
  have e2 : plaL G L = plL G 0 (suP (rkL G (gatN L))) := if_pos h
  rw [e2]
  exact way_hit hs h16 (plan_meets H (gat_lt hs (by omega)) ducks m p hp hr)
theorem forces_miss {G : Gm} {L man : List Int} {p : Nat} {m : Int} (h : askE G L = 0) (hp : p < G.own.length) (hr : rkI G (gatN L) p < 0) {k : Nat} {d : Int} (hd : (plyL G man (fleL G L) p m)[k]? = some d) : decide (d ∈ L) = false := by
  obtain ⟨hG, hs⟩ := askE_zero h
  have H := gE_zero hG
  have h16 := H.le
  have hg : gatN L < 2 ^ G.own.length := gat_lt hs (by omega)
  unfold plyL at hd
  split at hd
  · rw [Int.toNat_natCast, show fleL G L = plL G 1 (suF (rkL G (gatN L))) from if_pos h] at hd
    exact way_miss hs h16 (fun k => free_goal H hg (flee_keeps H hg man hp hr k)) hd
  · simp at hd
theorem forces_ways (G : Gm) (L : List Int) (f : Int) : (¬ askE G L = 0) ∨ (askE G L = 0 ∧ (f < 0 ∨ (G.own.length : Int) ≤ f)) ∨ (askE G L = 0 ∧ ∃ p m : Nat, f = (p : Int) ∧ p < G.own.length ∧ rkI G (gatN L) p = (m : Int)) ∨ (askE G L = 0 ∧ ∃ p : Nat, f = (p : Int) ∧ p < G.own.length ∧ rkI G (gatN L) p < 0) := by
  by_cases h : askE G L = 0
  · by_cases h2 : f < 0 ∨ (G.own.length : Int) ≤ f
    · exact .inr (.inl ⟨h, h2⟩)
    · obtain ⟨p, rfl⟩ := Int.eq_ofNat_of_zero_le (show 0 ≤ f by omega)
      rcases Int.lt_or_le (rkI G (gatN L) p) 0 with h3 | h3
      · exact .inr (.inr (.inr ⟨h, p, rfl, by omega, h3⟩))
      · obtain ⟨m, hm⟩ := Int.eq_ofNat_of_zero_le h3
        exact .inr (.inr (.inl ⟨h, p, m, rfl, by omega, hm⟩))
  · exact .inl h
set_option maxRecDepth 4000 in
set_option maxHeartbeats 3200000 in
theorem LureForces_walk (g : Gv) (A : Option Addr) (c : Nat) (L : List Int) (mt : Mt) (w : World) (hr : RdG w w.heap.size g) (hf : Gfit g) (hqL : Rd w w.heap.size A (ints L)) (hlL : L.length ≤ c) (hcL : c ≤ maxLen) (hmt : Mfit w mt) :
    Calls Try.prog 11 #[g.v, .slice A L.length c, mt.v] w fun e w' => e = .returned (.bool true) ∧ Below w.heap.size w w' := by
  obtain ⟨W, hW, p0', p1', hz', hb', hr1'⟩ := box_game w g 25 hr
  obtain ⟨W0, hW0, k0, s0, b0⟩ := one_blk W #[.slice mt.A0 mt.man.length mt.c0, .slice mt.A1 mt.ducks.length mt.c1, .int .i64 mt.from_, .int .i64 mt.moves] 40
  have hb : Below w.heap.size w W0 := hb'.trans (b0.mono hb'.size)
  have p0 := cell_keep p0' b0 hz'
  have p1 := cell_keep p1' b0 hz'
  have hz : w.heap.size < W0.heap.size := Nat.lt_of_lt_of_le hz' b0.size
  have hr1 := hr1'.up b0
  have m0_0 : W0.cell? ⟨W.heap.size, 0, none⟩ = some (.slice mt.A0 mt.man.length mt.c0) := by rw [blk_cell k0]; rfl
  have m1_0 : W0.cell? ⟨W.heap.size, 1, none⟩ = some (.slice mt.A1 mt.ducks.length mt.c1) := by rw [blk_cell k0]; rfl
  have m2_0 : W0.cell? ⟨W.heap.size, 2, none⟩ = some (.int .i64 mt.from_) := by rw [blk_cell k0]; rfl
  have m3_0 : W0.cell? ⟨W.heap.size, 3, none⟩ = some (.int .i64 mt.moves) := by rw [blk_cell k0]; rfl
  have y_0 : W.heap.size < W0.heap.size := s0
  have B0 := Lib.hid hb
  have RG0 := Lib.hid hr1
  have HLg := Lib.hid (Large_any g W0 hr1 hf)
  have man_0 := Lib.hid (hmt.r0.up hb)
  have ducks_0 := Lib.hid (hmt.r1.up hb)
  have hmman : mt.man.length ≤ 9223372036854775807 := by have h1 := hmt.l0; have h2 := hmt.k0; unfold maxLen at h2; omega
  have hmducks : mt.ducks.length ≤ 9223372036854775807 := by have h1 := hmt.l1; have h2 := hmt.k1; unfold maxLen at h2; omega
  have L_0 := Lib.hid (hqL.up hb)
  have hmL : L.length ≤ 9223372036854775807 := by unfold maxLen at hcL; omega
  clear hr hb hr1 hr1' hb' p0' p1' hz' b0 k0 s0 hmt hqL hlL hcL
  unfold Mt.v
  obtain ⟨MA, mc, man, DA, dc, ducks, from_, moves⟩ := mt
  simp only at hW0 m0_0 m1_0 m2_0 m3_0 man_0 ducks_0 hmman hmducks ⊢
  cases hbl : largeB g
  · obtain ⟨n100, r100, rr100⟩ := large_fit hbl
    rw [hbl] at HLg
    by_cases hlongL : 100 < L.length
    · have eL : decide ((100 : Int) < (L.length : Int)) = true := by rw [decide_eq_true_eq]; omega
      clear hlongL n100 r100 rr100
      clear hf hbl
      unfold Gv.v at HLg ⊢
      obtain ⟨A0, c0, own, A1, c1, rs⟩ := g
      simp only at hW p0 p1 HLg ⊢
      go_enter Try.func11, Try.ntmps11
      go_wp2_with fail
      refine (HLg.out).mono ?_
      rintro e w1 ⟨rfl, hb⟩
      have m0_1 := cell_keep m0_0 hb y_0
      have m1_1 := cell_keep m1_0 hb y_0
      have m2_1 := cell_keep m2_0 hb y_0
      have m3_1 := cell_keep m3_0 hb y_0
      have y_1 : W.heap.size < w1.heap.size := Nat.lt_of_lt_of_le y_0 hb.size
      clear m0_0 m1_0 m2_0 m3_0 y_0 hW0
      have B1 := Lib.hid (B0.out.trans (hb.mono B0.out.size))
      have RG1 := Lib.hid (RG0.out.up hb)
      have L_1 := Lib.hid (L_0.out.up hb)
      have man_1 := Lib.hid (man_0.out.up hb)
      have ducks_1 := Lib.hid (ducks_0.out.up hb)
      have q0_1 := cell_keep p0 hb hz
      have q1_1 := cell_keep p1 hb hz
      have z1 : w.heap.size < w1.heap.size := Nat.lt_of_lt_of_le hz hb.size
      clear p0 p1 hz hW
      clear hb
      go_wp2_with fail
      refine (known_ok w1).mono ?_
      rintro e w2 ⟨rfl, hb⟩
      have m0_2 := cell_keep m0_1 hb y_1
      have m1_2 := cell_keep m1_1 hb y_1
      have m2_2 := cell_keep m2_1 hb y_1
      have m3_2 := cell_keep m3_1 hb y_1
      have y_2 : W.heap.size < w2.heap.size := Nat.lt_of_lt_of_le y_1 hb.size
      clear m0_1 m1_1 m2_1 m3_1 y_1
      have B2 := Lib.hid (B1.out.trans (hb.mono B1.out.size))
      have RG2 := Lib.hid (RG1.out.up hb)
      have L_2 := Lib.hid (L_1.out.up hb)
      have man_2 := Lib.hid (man_1.out.up hb)
      have ducks_2 := Lib.hid (ducks_1.out.up hb)
      have q0_2 := cell_keep q0_1 hb z1
      have q1_2 := cell_keep q1_1 hb z1
      have z2 : w.heap.size < w2.heap.size := Nat.lt_of_lt_of_le z1 hb.size
      clear q0_1 q1_1 z1
      clear hb
      go_wp2_with fail
      go_ret
      exact ⟨rfl, B2.out⟩
    · have eL : decide ((100 : Int) < (L.length : Int)) = false := by rw [decide_eq_false_iff_not]; omega
      have h100L : L.length ≤ 100 := by omega
      clear hlongL
      by_cases hlongman : 100 < man.length
      · have eman : decide ((100 : Int) < (man.length : Int)) = true := by rw [decide_eq_true_eq]; omega
        clear hlongman n100 r100 rr100
        clear hf hbl
        unfold Gv.v at HLg ⊢
        obtain ⟨A0, c0, own, A1, c1, rs⟩ := g
        simp only at hW p0 p1 HLg ⊢
        go_enter Try.func11, Try.ntmps11
        go_wp2_with fail
        refine (HLg.out).mono ?_
        rintro e w1 ⟨rfl, hb⟩
        have m0_1 := cell_keep m0_0 hb y_0
        have m1_1 := cell_keep m1_0 hb y_0
        have m2_1 := cell_keep m2_0 hb y_0
        have m3_1 := cell_keep m3_0 hb y_0
        have y_1 : W.heap.size < w1.heap.size := Nat.lt_of_lt_of_le y_0 hb.size
        clear m0_0 m1_0 m2_0 m3_0 y_0 hW0
        have B1 := Lib.hid (B0.out.trans (hb.mono B0.out.size))
        have RG1 := Lib.hid (RG0.out.up hb)
        have L_1 := Lib.hid (L_0.out.up hb)
        have man_1 := Lib.hid (man_0.out.up hb)
        have ducks_1 := Lib.hid (ducks_0.out.up hb)
        have q0_1 := cell_keep p0 hb hz
        have q1_1 := cell_keep p1 hb hz
        have z1 : w.heap.size < w1.heap.size := Nat.lt_of_lt_of_le hz hb.size
        clear p0 p1 hz hW
        clear hb
        go_wp2_with fail
        refine (known_ok w1).mono ?_
        rintro e w2 ⟨rfl, hb⟩
        have m0_2 := cell_keep m0_1 hb y_1
        have m1_2 := cell_keep m1_1 hb y_1
        have m2_2 := cell_keep m2_1 hb y_1
        have m3_2 := cell_keep m3_1 hb y_1
        have y_2 : W.heap.size < w2.heap.size := Nat.lt_of_lt_of_le y_1 hb.size
        clear m0_1 m1_1 m2_1 m3_1 y_1
        have B2 := Lib.hid (B1.out.trans (hb.mono B1.out.size))
        have RG2 := Lib.hid (RG1.out.up hb)
        have L_2 := Lib.hid (L_1.out.up hb)
        have man_2 := Lib.hid (man_1.out.up hb)
        have ducks_2 := Lib.hid (ducks_1.out.up hb)
        have q0_2 := cell_keep q0_1 hb z1
        have q1_2 := cell_keep q1_1 hb z1
        have z2 : w.heap.size < w2.heap.size := Nat.lt_of_lt_of_le z1 hb.size
        clear q0_1 q1_1 z1
        clear hb
        go_wp2_with fail
        go_ret
        exact ⟨rfl, B2.out⟩
      · have eman : decide ((100 : Int) < (man.length : Int)) = false := by rw [decide_eq_false_iff_not]; omega
        have h100man : man.length ≤ 100 := by omega
        clear hlongman
        by_cases hlongducks : 100 < ducks.length
        · have educks : decide ((100 : Int) < (ducks.length : Int)) = true := by rw [decide_eq_true_eq]; omega
          clear hlongducks n100 r100 rr100
          clear hf hbl
          unfold Gv.v at HLg ⊢
          obtain ⟨A0, c0, own, A1, c1, rs⟩ := g
          simp only at hW p0 p1 HLg ⊢
          go_enter Try.func11, Try.ntmps11
          go_wp2_with fail
          refine (HLg.out).mono ?_
          rintro e w1 ⟨rfl, hb⟩
          have m0_1 := cell_keep m0_0 hb y_0
          have m1_1 := cell_keep m1_0 hb y_0
          have m2_1 := cell_keep m2_0 hb y_0
          have m3_1 := cell_keep m3_0 hb y_0
          have y_1 : W.heap.size < w1.heap.size := Nat.lt_of_lt_of_le y_0 hb.size
          clear m0_0 m1_0 m2_0 m3_0 y_0 hW0
          have B1 := Lib.hid (B0.out.trans (hb.mono B0.out.size))
          have RG1 := Lib.hid (RG0.out.up hb)
          have L_1 := Lib.hid (L_0.out.up hb)
          have man_1 := Lib.hid (man_0.out.up hb)
          have ducks_1 := Lib.hid (ducks_0.out.up hb)
          have q0_1 := cell_keep p0 hb hz
          have q1_1 := cell_keep p1 hb hz
          have z1 : w.heap.size < w1.heap.size := Nat.lt_of_lt_of_le hz hb.size
          clear p0 p1 hz hW
          clear hb
          go_wp2_with fail
          refine (known_ok w1).mono ?_
          rintro e w2 ⟨rfl, hb⟩
          have m0_2 := cell_keep m0_1 hb y_1
          have m1_2 := cell_keep m1_1 hb y_1
          have m2_2 := cell_keep m2_1 hb y_1
          have m3_2 := cell_keep m3_1 hb y_1
          have y_2 : W.heap.size < w2.heap.size := Nat.lt_of_lt_of_le y_1 hb.size
          clear m0_1 m1_1 m2_1 m3_1 y_1
          have B2 := Lib.hid (B1.out.trans (hb.mono B1.out.size))
          have RG2 := Lib.hid (RG1.out.up hb)
          have L_2 := Lib.hid (L_1.out.up hb)
          have man_2 := Lib.hid (man_1.out.up hb)
          have ducks_2 := Lib.hid (ducks_1.out.up hb)
          have q0_2 := cell_keep q0_1 hb z1
          have q1_2 := cell_keep q1_1 hb z1
          have z2 : w.heap.size < w2.heap.size := Nat.lt_of_lt_of_le z1 hb.size
          clear q0_1 q1_1 z1
          clear hb
          go_wp2_with fail
          go_ret
          exact ⟨rfl, B2.out⟩
        · have educks : decide ((100 : Int) < (ducks.length : Int)) = false := by rw [decide_eq_false_iff_not]; omega
          have h100ducks : ducks.length ≤ 100 := by omega
          clear hlongducks
          have C1 := Lib.hid (fun w h q => Plan_any g A c L w h hf q hmL)
          have C2 := Lib.hid (fun w h q => Flee_any g A c L w h hf q hmL)
          have C3 := Lib.hid (fun w h q => Ranks_any g A c L w h hf q hmL)
          rcases forces_ways g.G L from_ with hV | ⟨hV, hfr⟩ | ⟨hV, p, m, rfl, hpn, hrk⟩ | ⟨hV, p, rfl, hpn, hrk⟩
          · have hdummy : True := trivial
            obtain ⟨V, hVe⟩ : ∃ V, askE g.G L = V := ⟨_, rfl⟩
            rw [hVe] at hV C1 C2 C3
            have hb1 : (V == 0) = false := by simpa using hV
            have hb2 : (V != 0) = true := by simpa using hV
            clear hf hbl n100 r100 rr100 hV hVe hdummy
            generalize plaL g.G L = P at *
            generalize fleL g.G L = F at *
            generalize ranL g.G L = R at *
            unfold Gv.v at HLg C1 C2 C3 ⊢
            obtain ⟨A0, c0, own, A1, c1, rs⟩ := g
            simp only at *
            go_enter Try.func11, Try.ntmps11
            go_wp2_with fail
            refine (HLg.out).mono ?_
            rintro e w1 ⟨rfl, hb⟩
            have m0_1 := cell_keep m0_0 hb y_0
            have m1_1 := cell_keep m1_0 hb y_0
            have m2_1 := cell_keep m2_0 hb y_0
            have m3_1 := cell_keep m3_0 hb y_0
            have y_1 : W.heap.size < w1.heap.size := Nat.lt_of_lt_of_le y_0 hb.size
            clear m0_0 m1_0 m2_0 m3_0 y_0 hW0
            have B1 := Lib.hid (B0.out.trans (hb.mono B0.out.size))
            have RG1 := Lib.hid (RG0.out.up hb)
            have L_1 := Lib.hid (L_0.out.up hb)
            have man_1 := Lib.hid (man_0.out.up hb)
            have ducks_1 := Lib.hid (ducks_0.out.up hb)
            have q0_1 := cell_keep p0 hb hz
            have q1_1 := cell_keep p1 hb hz
            have z1 : w.heap.size < w1.heap.size := Nat.lt_of_lt_of_le hz hb.size
            clear p0 p1 hz hW
            clear hb
            go_wp2_with fail
            refine (C1.out w1 RG1.out L_1.out).mono ?_
            rintro e w2 ⟨A3, c3, rfl, hc3, hfA3, hrA3, hb⟩
            have m0_2 := cell_keep m0_1 hb y_1
            have m1_2 := cell_keep m1_1 hb y_1
            have m2_2 := cell_keep m2_1 hb y_1
            have m3_2 := cell_keep m3_1 hb y_1
            have y_2 : W.heap.size < w2.heap.size := Nat.lt_of_lt_of_le y_1 hb.size
            clear m0_1 m1_1 m2_1 m3_1 y_1
            have B2 := Lib.hid (B1.out.trans (hb.mono B1.out.size))
            have RG2 := Lib.hid (RG1.out.up hb)
            have L_2 := Lib.hid (L_1.out.up hb)
            have man_2 := Lib.hid (man_1.out.up hb)
            have ducks_2 := Lib.hid (ducks_1.out.up hb)
            have q0_2 := cell_keep q0_1 hb z1
            have q1_2 := cell_keep q1_1 hb z1
            have z2 : w.heap.size < w2.heap.size := Nat.lt_of_lt_of_le z1 hb.size
            clear q0_1 q1_1 z1
            clear hb
            have P_2 := Lib.hid hrA3
            clear hfA3 hrA3
            go_wp2_with fail
            refine (C2.out w2 RG2.out L_2.out).mono ?_
            rintro e w3 ⟨A4, c4, rfl, hc4, hfA4, hrA4, hb⟩
            have m0_3 := cell_keep m0_2 hb y_2
            have m1_3 := cell_keep m1_2 hb y_2
            have m2_3 := cell_keep m2_2 hb y_2
            have m3_3 := cell_keep m3_2 hb y_2
            have y_3 : W.heap.size < w3.heap.size := Nat.lt_of_lt_of_le y_2 hb.size
            clear m0_2 m1_2 m2_2 m3_2 y_2
            have B3 := Lib.hid (B2.out.trans (hb.mono B2.out.size))
            have RG3 := Lib.hid (RG2.out.up hb)
            have L_3 := Lib.hid (L_2.out.up hb)
            have man_3 := Lib.hid (man_2.out.up hb)
            have ducks_3 := Lib.hid (ducks_2.out.up hb)
            have P_3 := Lib.hid (P_2.out.up hb)
            have q0_3 := cell_keep q0_2 hb z2
            have q1_3 := cell_keep q1_2 hb z2
            have z3 : w.heap.size < w3.heap.size := Nat.lt_of_lt_of_le z2 hb.size
            clear q0_2 q1_2 z2
            clear hb
            have F_3 := Lib.hid hrA4
            clear hfA4 hrA4
            go_wp2_with fail
            refine (C3.out w3 RG3.out L_3.out).mono ?_
            rintro e w4 ⟨A5, c5, rfl, hc5, hfA5, hrA5, hb⟩
            have m0_4 := cell_keep m0_3 hb y_3
            have m1_4 := cell_keep m1_3 hb y_3
            have m2_4 := cell_keep m2_3 hb y_3
            have m3_4 := cell_keep m3_3 hb y_3
            have y_4 : W.heap.size < w4.heap.size := Nat.lt_of_lt_of_le y_3 hb.size
            clear m0_3 m1_3 m2_3 m3_3 y_3
            have B4 := Lib.hid (B3.out.trans (hb.mono B3.out.size))
            have RG4 := Lib.hid (RG3.out.up hb)
            have L_4 := Lib.hid (L_3.out.up hb)
            have man_4 := Lib.hid (man_3.out.up hb)
            have ducks_4 := Lib.hid (ducks_3.out.up hb)
            have P_4 := Lib.hid (P_3.out.up hb)
            have F_4 := Lib.hid (F_3.out.up hb)
            have q0_4 := cell_keep q0_3 hb z3
            have q1_4 := cell_keep q1_3 hb z3
            have z4 : w.heap.size < w4.heap.size := Nat.lt_of_lt_of_le z3 hb.size
            clear q0_3 q1_3 z3
            clear hb
            have R_4 := Lib.hid hrA5
            clear hfA5 hrA5
            go_wp2_with fail
            refine (known_ok w4).mono ?_
            rintro e w5 ⟨rfl, hb⟩
            have m0_5 := cell_keep m0_4 hb y_4
            have m1_5 := cell_keep m1_4 hb y_4
            have m2_5 := cell_keep m2_4 hb y_4
            have m3_5 := cell_keep m3_4 hb y_4
            have y_5 : W.heap.size < w5.heap.size := Nat.lt_of_lt_of_le y_4 hb.size
            clear m0_4 m1_4 m2_4 m3_4 y_4
            have B5 := Lib.hid (B4.out.trans (hb.mono B4.out.size))
            have RG5 := Lib.hid (RG4.out.up hb)
            have L_5 := Lib.hid (L_4.out.up hb)
            have man_5 := Lib.hid (man_4.out.up hb)
            have ducks_5 := Lib.hid (ducks_4.out.up hb)
            have P_5 := Lib.hid (P_4.out.up hb)
            have F_5 := Lib.hid (F_4.out.up hb)
            have R_5 := Lib.hid (R_4.out.up hb)
            have q0_5 := cell_keep q0_4 hb z4
            have q1_5 := cell_keep q1_4 hb z4
            have z5 : w.heap.size < w5.heap.size := Nat.lt_of_lt_of_le z4 hb.size
            clear q0_4 q1_4 z4
            clear hb
            go_wp2_with fail
            go_ret
            exact ⟨rfl, B5.out⟩
          · have HRl := Lib.hid (show (ranL g.G L).length = g.own.length by unfold ranL; rw [if_pos hV]; exact rkL_len _ _)
            rw [hV] at C1 C2 C3
            have eo : g.G.own = g.own := rfl
            rw [eo] at hfr
            clear hf hbl n100 r100 rr100 hV eo
            generalize plaL g.G L = P at *
            generalize fleL g.G L = F at *
            generalize ranL g.G L = R at *
            unfold Gv.v at HLg C1 C2 C3 ⊢
            obtain ⟨A0, c0, own, A1, c1, rs⟩ := g
            simp only at *
            go_enter Try.func11, Try.ntmps11
            go_wp2_with fail
            refine (HLg.out).mono ?_
            rintro e w1 ⟨rfl, hb⟩
            have m0_1 := cell_keep m0_0 hb y_0
            have m1_1 := cell_keep m1_0 hb y_0
            have m2_1 := cell_keep m2_0 hb y_0
            have m3_1 := cell_keep m3_0 hb y_0
            have y_1 : W.heap.size < w1.heap.size := Nat.lt_of_lt_of_le y_0 hb.size
            clear m0_0 m1_0 m2_0 m3_0 y_0 hW0
            have B1 := Lib.hid (B0.out.trans (hb.mono B0.out.size))
            have RG1 := Lib.hid (RG0.out.up hb)
            have L_1 := Lib.hid (L_0.out.up hb)
            have man_1 := Lib.hid (man_0.out.up hb)
            have ducks_1 := Lib.hid (ducks_0.out.up hb)
            have q0_1 := cell_keep p0 hb hz
            have q1_1 := cell_keep p1 hb hz
            have z1 : w.heap.size < w1.heap.size := Nat.lt_of_lt_of_le hz hb.size
            clear p0 p1 hz hW
            clear hb
            rcases hfr with hfr | hfr
            · have k1 : decide (from_ < 0) = true := by simpa using hfr
              clear hfr
              go_wp2_with fail
              refine (C1.out w1 RG1.out L_1.out).mono ?_
              rintro e w2 ⟨A3, c3, rfl, hc3, hfA3, hrA3, hb⟩
              have m0_2 := cell_keep m0_1 hb y_1
              have m1_2 := cell_keep m1_1 hb y_1
              have m2_2 := cell_keep m2_1 hb y_1
              have m3_2 := cell_keep m3_1 hb y_1
              have y_2 : W.heap.size < w2.heap.size := Nat.lt_of_lt_of_le y_1 hb.size
              clear m0_1 m1_1 m2_1 m3_1 y_1
              have B2 := Lib.hid (B1.out.trans (hb.mono B1.out.size))
              have RG2 := Lib.hid (RG1.out.up hb)
              have L_2 := Lib.hid (L_1.out.up hb)
              have man_2 := Lib.hid (man_1.out.up hb)
              have ducks_2 := Lib.hid (ducks_1.out.up hb)
              have q0_2 := cell_keep q0_1 hb z1
              have q1_2 := cell_keep q1_1 hb z1
              have z2 : w.heap.size < w2.heap.size := Nat.lt_of_lt_of_le z1 hb.size
              clear q0_1 q1_1 z1
              clear hb
              have P_2 := Lib.hid hrA3
              clear hfA3 hrA3
              go_wp2_with fail
              refine (C2.out w2 RG2.out L_2.out).mono ?_
              rintro e w3 ⟨A4, c4, rfl, hc4, hfA4, hrA4, hb⟩
              have m0_3 := cell_keep m0_2 hb y_2
              have m1_3 := cell_keep m1_2 hb y_2
              have m2_3 := cell_keep m2_2 hb y_2
              have m3_3 := cell_keep m3_2 hb y_2
              have y_3 : W.heap.size < w3.heap.size := Nat.lt_of_lt_of_le y_2 hb.size
              clear m0_2 m1_2 m2_2 m3_2 y_2
              have B3 := Lib.hid (B2.out.trans (hb.mono B2.out.size))
              have RG3 := Lib.hid (RG2.out.up hb)
              have L_3 := Lib.hid (L_2.out.up hb)
              have man_3 := Lib.hid (man_2.out.up hb)
              have ducks_3 := Lib.hid (ducks_2.out.up hb)
              have P_3 := Lib.hid (P_2.out.up hb)
              have q0_3 := cell_keep q0_2 hb z2
              have q1_3 := cell_keep q1_2 hb z2
              have z3 : w.heap.size < w3.heap.size := Nat.lt_of_lt_of_le z2 hb.size
              clear q0_2 q1_2 z2
              clear hb
              have F_3 := Lib.hid hrA4
              clear hfA4 hrA4
              go_wp2_with fail
              refine (C3.out w3 RG3.out L_3.out).mono ?_
              rintro e w4 ⟨A5, c5, rfl, hc5, hfA5, hrA5, hb⟩
              have m0_4 := cell_keep m0_3 hb y_3
              have m1_4 := cell_keep m1_3 hb y_3
              have m2_4 := cell_keep m2_3 hb y_3
              have m3_4 := cell_keep m3_3 hb y_3
              have y_4 : W.heap.size < w4.heap.size := Nat.lt_of_lt_of_le y_3 hb.size
              clear m0_3 m1_3 m2_3 m3_3 y_3
              have B4 := Lib.hid (B3.out.trans (hb.mono B3.out.size))
              have RG4 := Lib.hid (RG3.out.up hb)
              have L_4 := Lib.hid (L_3.out.up hb)
              have man_4 := Lib.hid (man_3.out.up hb)
              have ducks_4 := Lib.hid (ducks_3.out.up hb)
              have P_4 := Lib.hid (P_3.out.up hb)
              have F_4 := Lib.hid (F_3.out.up hb)
              have q0_4 := cell_keep q0_3 hb z3
              have q1_4 := cell_keep q1_3 hb z3
              have z4 : w.heap.size < w4.heap.size := Nat.lt_of_lt_of_le z3 hb.size
              clear q0_3 q1_3 z3
              clear hb
              have R_4 := Lib.hid hrA5
              clear hfA5 hrA5
              go_wp2_with fail
              refine (known_ok w4).mono ?_
              rintro e w5 ⟨rfl, hb⟩
              have m0_5 := cell_keep m0_4 hb y_4
              have m1_5 := cell_keep m1_4 hb y_4
              have m2_5 := cell_keep m2_4 hb y_4
              have m3_5 := cell_keep m3_4 hb y_4
              have y_5 : W.heap.size < w5.heap.size := Nat.lt_of_lt_of_le y_4 hb.size
              clear m0_4 m1_4 m2_4 m3_4 y_4
              have B5 := Lib.hid (B4.out.trans (hb.mono B4.out.size))
              have RG5 := Lib.hid (RG4.out.up hb)
              have L_5 := Lib.hid (L_4.out.up hb)
              have man_5 := Lib.hid (man_4.out.up hb)
              have ducks_5 := Lib.hid (ducks_4.out.up hb)
              have P_5 := Lib.hid (P_4.out.up hb)
              have F_5 := Lib.hid (F_4.out.up hb)
              have R_5 := Lib.hid (R_4.out.up hb)
              have q0_5 := cell_keep q0_4 hb z4
              have q1_5 := cell_keep q1_4 hb z4
              have z5 : w.heap.size < w5.heap.size := Nat.lt_of_lt_of_le z4 hb.size
              clear q0_4 q1_4 z4
              clear hb
              go_wp2_with fail
              go_ret
              exact ⟨rfl, B5.out⟩
            · have k1 : decide (from_ < 0) = false := by rw [decide_eq_false_iff_not]; omega
              have k2 : decide ((R.length : Int) ≤ from_) = true := by rw [decide_eq_true_eq]; have := HRl.out; omega
              clear hfr
              go_wp2_with fail
              refine (C1.out w1 RG1.out L_1.out).mono ?_
              rintro e w2 ⟨A3, c3, rfl, hc3, hfA3, hrA3, hb⟩
              have m0_2 := cell_keep m0_1 hb y_1
              have m1_2 := cell_keep m1_1 hb y_1
              have m2_2 := cell_keep m2_1 hb y_1
              have m3_2 := cell_keep m3_1 hb y_1
              have y_2 : W.heap.size < w2.heap.size := Nat.lt_of_lt_of_le y_1 hb.size
              clear m0_1 m1_1 m2_1 m3_1 y_1
              have B2 := Lib.hid (B1.out.trans (hb.mono B1.out.size))
              have RG2 := Lib.hid (RG1.out.up hb)
              have L_2 := Lib.hid (L_1.out.up hb)
              have man_2 := Lib.hid (man_1.out.up hb)
              have ducks_2 := Lib.hid (ducks_1.out.up hb)
              have q0_2 := cell_keep q0_1 hb z1
              have q1_2 := cell_keep q1_1 hb z1
              have z2 : w.heap.size < w2.heap.size := Nat.lt_of_lt_of_le z1 hb.size
              clear q0_1 q1_1 z1
              clear hb
              have P_2 := Lib.hid hrA3
              clear hfA3 hrA3
              go_wp2_with fail
              refine (C2.out w2 RG2.out L_2.out).mono ?_
              rintro e w3 ⟨A4, c4, rfl, hc4, hfA4, hrA4, hb⟩
              have m0_3 := cell_keep m0_2 hb y_2
              have m1_3 := cell_keep m1_2 hb y_2
              have m2_3 := cell_keep m2_2 hb y_2
              have m3_3 := cell_keep m3_2 hb y_2
              have y_3 : W.heap.size < w3.heap.size := Nat.lt_of_lt_of_le y_2 hb.size
              clear m0_2 m1_2 m2_2 m3_2 y_2
              have B3 := Lib.hid (B2.out.trans (hb.mono B2.out.size))
              have RG3 := Lib.hid (RG2.out.up hb)
              have L_3 := Lib.hid (L_2.out.up hb)
              have man_3 := Lib.hid (man_2.out.up hb)
              have ducks_3 := Lib.hid (ducks_2.out.up hb)
              have P_3 := Lib.hid (P_2.out.up hb)
              have q0_3 := cell_keep q0_2 hb z2
              have q1_3 := cell_keep q1_2 hb z2
              have z3 : w.heap.size < w3.heap.size := Nat.lt_of_lt_of_le z2 hb.size
              clear q0_2 q1_2 z2
              clear hb
              have F_3 := Lib.hid hrA4
              clear hfA4 hrA4
              go_wp2_with fail
              refine (C3.out w3 RG3.out L_3.out).mono ?_
              rintro e w4 ⟨A5, c5, rfl, hc5, hfA5, hrA5, hb⟩
              have m0_4 := cell_keep m0_3 hb y_3
              have m1_4 := cell_keep m1_3 hb y_3
              have m2_4 := cell_keep m2_3 hb y_3
              have m3_4 := cell_keep m3_3 hb y_3
              have y_4 : W.heap.size < w4.heap.size := Nat.lt_of_lt_of_le y_3 hb.size
              clear m0_3 m1_3 m2_3 m3_3 y_3
              have B4 := Lib.hid (B3.out.trans (hb.mono B3.out.size))
              have RG4 := Lib.hid (RG3.out.up hb)
              have L_4 := Lib.hid (L_3.out.up hb)
              have man_4 := Lib.hid (man_3.out.up hb)
              have ducks_4 := Lib.hid (ducks_3.out.up hb)
              have P_4 := Lib.hid (P_3.out.up hb)
              have F_4 := Lib.hid (F_3.out.up hb)
              have q0_4 := cell_keep q0_3 hb z3
              have q1_4 := cell_keep q1_3 hb z3
              have z4 : w.heap.size < w4.heap.size := Nat.lt_of_lt_of_le z3 hb.size
              clear q0_3 q1_3 z3
              clear hb
              have R_4 := Lib.hid hrA5
              clear hfA5 hrA5
              go_wp2_with fail
              refine (known_ok w4).mono ?_
              rintro e w5 ⟨rfl, hb⟩
              have m0_5 := cell_keep m0_4 hb y_4
              have m1_5 := cell_keep m1_4 hb y_4
              have m2_5 := cell_keep m2_4 hb y_4
              have m3_5 := cell_keep m3_4 hb y_4
              have y_5 : W.heap.size < w5.heap.size := Nat.lt_of_lt_of_le y_4 hb.size
              clear m0_4 m1_4 m2_4 m3_4 y_4
              have B5 := Lib.hid (B4.out.trans (hb.mono B4.out.size))
              have RG5 := Lib.hid (RG4.out.up hb)
              have L_5 := Lib.hid (L_4.out.up hb)
              have man_5 := Lib.hid (man_4.out.up hb)
              have ducks_5 := Lib.hid (ducks_4.out.up hb)
              have P_5 := Lib.hid (P_4.out.up hb)
              have F_5 := Lib.hid (F_4.out.up hb)
              have R_5 := Lib.hid (R_4.out.up hb)
              have q0_5 := cell_keep q0_4 hb z4
              have q1_5 := cell_keep q1_4 hb z4
              have z5 : w.heap.size < w5.heap.size := Nat.lt_of_lt_of_le z4 hb.size
              clear q0_4 q1_4 z4
              clear hb
              go_wp2_with fail
              go_ret
              exact ⟨rfl, B5.out⟩
          · have HRl := Lib.hid (show (ranL g.G L).length = g.own.length by unfold ranL; rw [if_pos hV]; exact rkL_len _ _)
            have HRp := Lib.hid (show (ranL g.G L)[p]? = some (m : Int) by unfold ranL; rw [if_pos hV, rkL_at hpn, hrk])
            rw [hV] at C1 C2 C3
            have D1 := Lib.hid (fun A3 c3 w h q r => Play_any g A3 c3 (plaL g.G L) DA dc ducks p m w h hf q r)
            have HHit := Lib.hid (fun h => forces_hit (ducks := ducks) hV hpn hrk h)
            have hpo : p < g.own.length := hpn
            have hx := ply_le g.G (plaL g.G L) ducks p m
            clear hf hbl n100 r100 rr100 hV hpn hrk
            generalize plyL g.G (plaL g.G L) ducks p m = X at *
            generalize plyE g.G (plaL g.G L) ducks p m = V at *
            generalize plaL g.G L = P at *
            generalize fleL g.G L = F at *
            generalize ranL g.G L = R at *
            unfold Gv.v at HLg C1 C2 C3 D1 ⊢
            obtain ⟨A0, c0, own, A1, c1, rs⟩ := g
            simp only at *
            go_enter Try.func11, Try.ntmps11
            go_wp2_with fail
            refine (HLg.out).mono ?_
            rintro e w1 ⟨rfl, hb⟩
            have m0_1 := cell_keep m0_0 hb y_0
            have m1_1 := cell_keep m1_0 hb y_0
            have m2_1 := cell_keep m2_0 hb y_0
            have m3_1 := cell_keep m3_0 hb y_0
            have y_1 : W.heap.size < w1.heap.size := Nat.lt_of_lt_of_le y_0 hb.size
            clear m0_0 m1_0 m2_0 m3_0 y_0 hW0
            have B1 := Lib.hid (B0.out.trans (hb.mono B0.out.size))
            have RG1 := Lib.hid (RG0.out.up hb)
            have L_1 := Lib.hid (L_0.out.up hb)
            have man_1 := Lib.hid (man_0.out.up hb)
            have ducks_1 := Lib.hid (ducks_0.out.up hb)
            have q0_1 := cell_keep p0 hb hz
            have q1_1 := cell_keep p1 hb hz
            have z1 : w.heap.size < w1.heap.size := Nat.lt_of_lt_of_le hz hb.size
            clear p0 p1 hz hW
            clear hb
            go_wp2_with fail
            refine (C1.out w1 RG1.out L_1.out).mono ?_
            rintro e w2 ⟨A3, c3, rfl, hc3, hfA3, hrA3, hb⟩
            have m0_2 := cell_keep m0_1 hb y_1
            have m1_2 := cell_keep m1_1 hb y_1
            have m2_2 := cell_keep m2_1 hb y_1
            have m3_2 := cell_keep m3_1 hb y_1
            have y_2 : W.heap.size < w2.heap.size := Nat.lt_of_lt_of_le y_1 hb.size
            clear m0_1 m1_1 m2_1 m3_1 y_1
            have B2 := Lib.hid (B1.out.trans (hb.mono B1.out.size))
            have RG2 := Lib.hid (RG1.out.up hb)
            have L_2 := Lib.hid (L_1.out.up hb)
            have man_2 := Lib.hid (man_1.out.up hb)
            have ducks_2 := Lib.hid (ducks_1.out.up hb)
            have q0_2 := cell_keep q0_1 hb z1
            have q1_2 := cell_keep q1_1 hb z1
            have z2 : w.heap.size < w2.heap.size := Nat.lt_of_lt_of_le z1 hb.size
            clear q0_1 q1_1 z1
            clear hb
            have P_2 := Lib.hid hrA3
            clear hfA3 hrA3
            go_wp2_with fail
            refine (C2.out w2 RG2.out L_2.out).mono ?_
            rintro e w3 ⟨A4, c4, rfl, hc4, hfA4, hrA4, hb⟩
            have m0_3 := cell_keep m0_2 hb y_2
            have m1_3 := cell_keep m1_2 hb y_2
            have m2_3 := cell_keep m2_2 hb y_2
            have m3_3 := cell_keep m3_2 hb y_2
            have y_3 : W.heap.size < w3.heap.size := Nat.lt_of_lt_of_le y_2 hb.size
            clear m0_2 m1_2 m2_2 m3_2 y_2
            have B3 := Lib.hid (B2.out.trans (hb.mono B2.out.size))
            have RG3 := Lib.hid (RG2.out.up hb)
            have L_3 := Lib.hid (L_2.out.up hb)
            have man_3 := Lib.hid (man_2.out.up hb)
            have ducks_3 := Lib.hid (ducks_2.out.up hb)
            have P_3 := Lib.hid (P_2.out.up hb)
            have q0_3 := cell_keep q0_2 hb z2
            have q1_3 := cell_keep q1_2 hb z2
            have z3 : w.heap.size < w3.heap.size := Nat.lt_of_lt_of_le z2 hb.size
            clear q0_2 q1_2 z2
            clear hb
            have F_3 := Lib.hid hrA4
            clear hfA4 hrA4
            go_wp2_with fail
            refine (C3.out w3 RG3.out L_3.out).mono ?_
            rintro e w4 ⟨A5, c5, rfl, hc5, hfA5, hrA5, hb⟩
            have m0_4 := cell_keep m0_3 hb y_3
            have m1_4 := cell_keep m1_3 hb y_3
            have m2_4 := cell_keep m2_3 hb y_3
            have m3_4 := cell_keep m3_3 hb y_3
            have y_4 : W.heap.size < w4.heap.size := Nat.lt_of_lt_of_le y_3 hb.size
            clear m0_3 m1_3 m2_3 m3_3 y_3
            have B4 := Lib.hid (B3.out.trans (hb.mono B3.out.size))
            have RG4 := Lib.hid (RG3.out.up hb)
            have L_4 := Lib.hid (L_3.out.up hb)
            have man_4 := Lib.hid (man_3.out.up hb)
            have ducks_4 := Lib.hid (ducks_3.out.up hb)
            have P_4 := Lib.hid (P_3.out.up hb)
            have F_4 := Lib.hid (F_3.out.up hb)
            have q0_4 := cell_keep q0_3 hb z3
            have q1_4 := cell_keep q1_3 hb z3
            have z4 : w.heap.size < w4.heap.size := Nat.lt_of_lt_of_le z3 hb.size
            clear q0_3 q1_3 z3
            clear hb
            have R_4 := Lib.hid hrA5
            clear hfA5 hrA5
            obtain ⟨bz, oz, rz, hA5, hrz, crz⟩ := R_4.out.int p (by have := HRl.out; omega)
            obtain rfl := Option.some.inj ((HRp.out).symm.trans hrz.out)
            subst hA5
            have i0 : (0 : Int) ≤ (p : Int) := by omega
            have i1 : (p : Int) < (R.length : Int) := by have := HRl.out; omega
            have j1 : decide ((p : Int) < 0) = false := by rw [decide_eq_false_iff_not]; omega
            have j2 : decide ((R.length : Int) ≤ (p : Int)) = false := by rw [decide_eq_false_iff_not]; omega
            have j2' : decide (R.length ≤ p) = false := by rw [decide_eq_false_iff_not]; omega
            have j3 : decide ((0 : Int) ≤ (m : Int)) = true := by rw [decide_eq_true_eq]; omega
            have HK := Lib.hid (fun (w5 : World) (h : Below w4.heap.size w4 w5) => And.intro (cell_keep q0_4 h z4) (And.intro (cell_keep q1_4 h z4) (And.intro (cell_keep m1_4 h y_4) (And.intro (cell_keep m2_4 h y_4) (cell_keep crz h (World.block_lt_of_cell? w4 _ crz))))))
            have HS0 := Lib.hid (HK.out w4.drew ((Below.refl _ w4).drew))
            have BD := Lib.hid ((Below.refl w4.heap.size w4).drew)
            have RGD := Lib.hid (RG4.out.up BD.out)
            go_wp2_with fail
            go_region_held3 (fun w' => w'.cell? ⟨w.heap.size, 0, none⟩ = some (.slice A0 own.length c0) ∧ w'.cell? ⟨w.heap.size, 1, none⟩ = some (.slice A1 rs.length c1) ∧ w'.cell? ⟨W.heap.size, 1, none⟩ = some (.slice DA ducks.length dc) ∧ w'.cell? ⟨W.heap.size, 2, none⟩ = some (.int .i64 (p : Int)) ∧ w'.cell? ⟨bz, oz + p, none⟩ = some (.int .i64 (m : Int)))
              (first | exact HS0.out | exact SK.out)
              ((first | (go_at_call 37; refine (D1.out A3 c3 _ RGD.out (show Rd w4.drew w4.drew.heap.size A3 (ints P) from P_4.out) (show Rd w4.drew w4.drew.heap.size DA (ints ducks) from ducks_4.out)).mono ?_; rintro e w8 ⟨A8, c8, rfl, hc8, hf8, hr8, hb8⟩; have SK := Lib.hid (HK.out w8 (BD.out.trans hb8)); have B8 := Lib.hid (B4.out.trans ((BD.out.trans hb8).mono B4.out.size)); have R8 := Lib.hid hr8; have L8 := Lib.hid (L_4.out.up (BD.out.trans hb8)); clear hb8 hf8 hr8)))
            go_wp2_with fail
            go_loopw [15, 16] (fun v i wr => ∃ k : Nat, k ≤ X.length ∧ i = .int .i64 k ∧ v = .bool (hitK L X k) ∧ wr = w8) (fun _ i _ => X.length - (intOf i).toNat)
            case atStart => exact ⟨0, by omega, rfl, rfl, rfl⟩
            case round =>
              obtain ⟨q, hq, rfl, rfl, rfl⟩ := hrel
              by_cases hlt : q < X.length
              · obtain ⟨b, o, d, rfl, hd, hc⟩ := R8.out.int q hlt
                have HN := Lib.hid (hitK_next (L := L) hd.out)
                have HQ := Lib.hid (Has_any A c L d _ L8.out (by omega))
                have q0 : (q : Int) < (X.length : Int) := by omega
                cases hh : hitK L X q
                · rw [hh, Bool.false_or] at HN
                  obtain ⟨bb, hbb⟩ : ∃ bb, decide (d ∈ L) = bb := ⟨_, rfl⟩
                  rw [hbb] at HN HQ
                  clear hh hbb
                  go_wp2_with fail
                  refine (HQ.out).mono ?_
                  rintro e w' ⟨rfl, rfl⟩
                  go_wp2_with fail
                  go_roundw
                  case rel => exact ⟨q + 1, by omega, by go_num, by rw [HN.out], by first | rfl | trivial⟩
                  case measure => simp [intOf]; omega
                · rw [hh, Bool.true_or] at HN
                  clear hh
                  go_wp2_with fail
                  go_roundw
                  case rel => exact ⟨q + 1, by omega, by go_num, by rw [HN.out], by first | rfl | trivial⟩
                  case measure => simp [intOf]; omega
              · have hks : q = X.length := by omega
                have b3 : decide ((q : Int) < (X.length : Int)) = false := by rw [decide_eq_false_iff_not]; omega
                have b4 : decide (q < X.length) = false := by rw [decide_eq_false_iff_not]; exact hlt
                by_cases hV : V = 0
                · have hh := HHit.out hV
                  rw [← hks] at hh
                  have v1 : (V != 0) = false := by rw [hV]; rfl
                  rw [hh]
                  clear hks hlt hh hV
                  go_wp2_with fail
                  refine (known_ok _).mono ?_
                  rintro e w9 ⟨rfl, hb⟩
                  go_wp2_with fail
                  go_ret
                  exact ⟨rfl, B8.out.trans (hb.mono B8.out.size)⟩
                · have v1 : (V != 0) = true := by simpa using hV
                  clear hks hlt hV
                  go_wp2_with fail
                  refine (known_ok _).mono ?_
                  rintro e w9 ⟨rfl, hb⟩
                  go_wp2_with fail
                  go_ret
                  exact ⟨rfl, B8.out.trans (hb.mono B8.out.size)⟩
          · have HRl := Lib.hid (show (ranL g.G L).length = g.own.length by unfold ranL; rw [if_pos hV]; exact rkL_len _ _)
            obtain ⟨rr, hrr⟩ : ∃ rr, rkI g.G (gatN L) p = rr := ⟨_, rfl⟩
            have HRp := Lib.hid (show (ranL g.G L)[p]? = some rr by unfold ranL; rw [if_pos hV, rkL_at hpn, hrr])
            have HRr := Lib.hid (show rr < 0 by rw [← hrr]; exact hrk)
            rw [hV] at C1 C2 C3
            have D1 := Lib.hid (fun A4 c4 w h q r => Play_any g MA mc man A4 c4 (fleL g.G L) p moves w h hf q r)
            have HHit := Lib.hid (fun k d h => forces_miss (man := man) (m := moves) hV hpn hrk (k := k) (d := d) h)
            have HV01 := Lib.hid (ply_01 (man := man) (ducks := fleL g.G L) (f := (p : Int)) (m := moves) (askE_zero hV).1)
            have hpo : p < g.own.length := hpn
            have hx := ply_le g.G man (fleL g.G L) p moves
            clear hf hbl n100 r100 rr100 hV hpn hrk hrr
            generalize plyL g.G man (fleL g.G L) p moves = X at *
            generalize plyE g.G man (fleL g.G L) p moves = V at *
            generalize plaL g.G L = P at *
            generalize fleL g.G L = F at *
            generalize ranL g.G L = R at *
            unfold Gv.v at HLg C1 C2 C3 D1 ⊢
            obtain ⟨A0, c0, own, A1, c1, rs⟩ := g
            simp only at *
            go_enter Try.func11, Try.ntmps11
            go_wp2_with fail
            refine (HLg.out).mono ?_
            rintro e w1 ⟨rfl, hb⟩
            have m0_1 := cell_keep m0_0 hb y_0
            have m1_1 := cell_keep m1_0 hb y_0
            have m2_1 := cell_keep m2_0 hb y_0
            have m3_1 := cell_keep m3_0 hb y_0
            have y_1 : W.heap.size < w1.heap.size := Nat.lt_of_lt_of_le y_0 hb.size
            clear m0_0 m1_0 m2_0 m3_0 y_0 hW0
            have B1 := Lib.hid (B0.out.trans (hb.mono B0.out.size))
            have RG1 := Lib.hid (RG0.out.up hb)
            have L_1 := Lib.hid (L_0.out.up hb)
            have man_1 := Lib.hid (man_0.out.up hb)
            have ducks_1 := Lib.hid (ducks_0.out.up hb)
            have q0_1 := cell_keep p0 hb hz
            have q1_1 := cell_keep p1 hb hz
            have z1 : w.heap.size < w1.heap.size := Nat.lt_of_lt_of_le hz hb.size
            clear p0 p1 hz hW
            clear hb
            go_wp2_with fail
            refine (C1.out w1 RG1.out L_1.out).mono ?_
            rintro e w2 ⟨A3, c3, rfl, hc3, hfA3, hrA3, hb⟩
            have m0_2 := cell_keep m0_1 hb y_1
            have m1_2 := cell_keep m1_1 hb y_1
            have m2_2 := cell_keep m2_1 hb y_1
            have m3_2 := cell_keep m3_1 hb y_1
            have y_2 : W.heap.size < w2.heap.size := Nat.lt_of_lt_of_le y_1 hb.size
            clear m0_1 m1_1 m2_1 m3_1 y_1
            have B2 := Lib.hid (B1.out.trans (hb.mono B1.out.size))
            have RG2 := Lib.hid (RG1.out.up hb)
            have L_2 := Lib.hid (L_1.out.up hb)
            have man_2 := Lib.hid (man_1.out.up hb)
            have ducks_2 := Lib.hid (ducks_1.out.up hb)
            have q0_2 := cell_keep q0_1 hb z1
            have q1_2 := cell_keep q1_1 hb z1
            have z2 : w.heap.size < w2.heap.size := Nat.lt_of_lt_of_le z1 hb.size
            clear q0_1 q1_1 z1
            clear hb
            have P_2 := Lib.hid hrA3
            clear hfA3 hrA3
            go_wp2_with fail
            refine (C2.out w2 RG2.out L_2.out).mono ?_
            rintro e w3 ⟨A4, c4, rfl, hc4, hfA4, hrA4, hb⟩
            have m0_3 := cell_keep m0_2 hb y_2
            have m1_3 := cell_keep m1_2 hb y_2
            have m2_3 := cell_keep m2_2 hb y_2
            have m3_3 := cell_keep m3_2 hb y_2
            have y_3 : W.heap.size < w3.heap.size := Nat.lt_of_lt_of_le y_2 hb.size
            clear m0_2 m1_2 m2_2 m3_2 y_2
            have B3 := Lib.hid (B2.out.trans (hb.mono B2.out.size))
            have RG3 := Lib.hid (RG2.out.up hb)
            have L_3 := Lib.hid (L_2.out.up hb)
            have man_3 := Lib.hid (man_2.out.up hb)
            have ducks_3 := Lib.hid (ducks_2.out.up hb)
            have P_3 := Lib.hid (P_2.out.up hb)
            have q0_3 := cell_keep q0_2 hb z2
            have q1_3 := cell_keep q1_2 hb z2
            have z3 : w.heap.size < w3.heap.size := Nat.lt_of_lt_of_le z2 hb.size
            clear q0_2 q1_2 z2
            clear hb
            have F_3 := Lib.hid hrA4
            clear hfA4 hrA4
            go_wp2_with fail
            refine (C3.out w3 RG3.out L_3.out).mono ?_
            rintro e w4 ⟨A5, c5, rfl, hc5, hfA5, hrA5, hb⟩
            have m0_4 := cell_keep m0_3 hb y_3
            have m1_4 := cell_keep m1_3 hb y_3
            have m2_4 := cell_keep m2_3 hb y_3
            have m3_4 := cell_keep m3_3 hb y_3
            have y_4 : W.heap.size < w4.heap.size := Nat.lt_of_lt_of_le y_3 hb.size
            clear m0_3 m1_3 m2_3 m3_3 y_3
            have B4 := Lib.hid (B3.out.trans (hb.mono B3.out.size))
            have RG4 := Lib.hid (RG3.out.up hb)
            have L_4 := Lib.hid (L_3.out.up hb)
            have man_4 := Lib.hid (man_3.out.up hb)
            have ducks_4 := Lib.hid (ducks_3.out.up hb)
            have P_4 := Lib.hid (P_3.out.up hb)
            have F_4 := Lib.hid (F_3.out.up hb)
            have q0_4 := cell_keep q0_3 hb z3
            have q1_4 := cell_keep q1_3 hb z3
            have z4 : w.heap.size < w4.heap.size := Nat.lt_of_lt_of_le z3 hb.size
            clear q0_3 q1_3 z3
            clear hb
            have R_4 := Lib.hid hrA5
            clear hfA5 hrA5
            obtain ⟨bz, oz, rz, hA5, hrz, crz⟩ := R_4.out.int p (by have := HRl.out; omega)
            obtain rfl := Option.some.inj ((HRp.out).symm.trans hrz.out)
            subst hA5
            have i0 : (0 : Int) ≤ (p : Int) := by omega
            have i1 : (p : Int) < (R.length : Int) := by have := HRl.out; omega
            have j1 : decide ((p : Int) < 0) = false := by rw [decide_eq_false_iff_not]; omega
            have j2 : decide ((R.length : Int) ≤ (p : Int)) = false := by rw [decide_eq_false_iff_not]; omega
            have j2' : decide (R.length ≤ p) = false := by rw [decide_eq_false_iff_not]; omega
            have j3 : decide ((0 : Int) ≤ rr) = false := by rw [decide_eq_false_iff_not]; have := HRr.out; omega
            go_wp2_with fail
            refine (D1.out A4 c4 w4 RG4.out man_4.out F_4.out).mono ?_
            rintro e w5 ⟨A8, c8, rfl, hc8, hfA8, hrA8, hb⟩
            have m0_5 := cell_keep m0_4 hb y_4
            have m1_5 := cell_keep m1_4 hb y_4
            have m2_5 := cell_keep m2_4 hb y_4
            have m3_5 := cell_keep m3_4 hb y_4
            have y_5 : W.heap.size < w5.heap.size := Nat.lt_of_lt_of_le y_4 hb.size
            clear m0_4 m1_4 m2_4 m3_4 y_4
            have B5 := Lib.hid (B4.out.trans (hb.mono B4.out.size))
            have RG5 := Lib.hid (RG4.out.up hb)
            have L_5 := Lib.hid (L_4.out.up hb)
            have man_5 := Lib.hid (man_4.out.up hb)
            have ducks_5 := Lib.hid (ducks_4.out.up hb)
            have P_5 := Lib.hid (P_4.out.up hb)
            have F_5 := Lib.hid (F_4.out.up hb)
            have R_5 := Lib.hid (R_4.out.up hb)
            have q0_5 := cell_keep q0_4 hb z4
            have q1_5 := cell_keep q1_4 hb z4
            have z5 : w.heap.size < w5.heap.size := Nat.lt_of_lt_of_le z4 hb.size
            clear q0_4 q1_4 z4
            clear hb
            have X_5 := Lib.hid hrA8
            clear hfA8 hrA8
            go_wp2_with fail
            go_loopw [19] (fun i wr => ∃ k : Nat, k ≤ X.length ∧ i = .int .i64 k ∧ wr = w5) (fun i _ => X.length - (intOf i).toNat)
            case atStart => exact ⟨0, by omega, rfl, rfl⟩
            case round =>
              obtain ⟨q, hq, rfl, rfl⟩ := hrel
              by_cases hlt : q < X.length
              · obtain ⟨b, o, d, rfl, hd, hc⟩ := X_5.out.int q hlt
                have HQ := Lib.hid (Has_any A c L d _ L_5.out (by omega))
                rw [HHit.out q d hd.out] at HQ
                have q0 : (q : Int) < (X.length : Int) := by omega
                go_wp2_with fail
                refine (HQ.out).mono ?_
                rintro e w' ⟨rfl, rfl⟩
                go_wp2_with fail
                go_roundw
                case rel => exact ⟨q + 1, by omega, by go_num, by first | rfl | trivial⟩
                case measure => simp [intOf]; omega
              · have hks : q = X.length := by omega
                have b3 : decide ((q : Int) < (X.length : Int)) = false := by rw [decide_eq_false_iff_not]; omega
                have b4 : decide (q < X.length) = false := by rw [decide_eq_false_iff_not]; exact hlt
                clear hks hlt
                rcases HV01.out with hV | hV
                · have v1 : (V == 0) = true := by rw [hV]; rfl
                  clear hV
                  go_wp2_with fail
                  refine (known_ok _).mono ?_
                  rintro e w9 ⟨rfl, hb⟩
                  go_wp2_with fail
                  go_ret
                  exact ⟨rfl, B5.out.trans (hb.mono B5.out.size)⟩
                · have v1 : (V == 0) = false := by rw [hV]; rfl
                  have v2 : (V == 1) = true := by rw [hV]; rfl
                  clear hV
                  go_wp2_with fail
                  refine (known_ok _).mono ?_
                  rintro e w9 ⟨rfl, hb⟩
                  go_wp2_with fail
                  go_ret
                  exact ⟨rfl, B5.out.trans (hb.mono B5.out.size)⟩
  · rw [hbl] at HLg
    clear hf hbl
    unfold Gv.v at HLg ⊢
    obtain ⟨A0, c0, own, A1, c1, rs⟩ := g
    simp only at hW p0 p1 HLg ⊢
    go_enter Try.func11, Try.ntmps11
    go_wp2_with fail
    refine (HLg.out).mono ?_
    rintro e w1 ⟨rfl, hb⟩
    have m0_1 := cell_keep m0_0 hb y_0
    have m1_1 := cell_keep m1_0 hb y_0
    have m2_1 := cell_keep m2_0 hb y_0
    have m3_1 := cell_keep m3_0 hb y_0
    have y_1 : W.heap.size < w1.heap.size := Nat.lt_of_lt_of_le y_0 hb.size
    clear m0_0 m1_0 m2_0 m3_0 y_0 hW0
    have B1 := Lib.hid (B0.out.trans (hb.mono B0.out.size))
    have RG1 := Lib.hid (RG0.out.up hb)
    have L_1 := Lib.hid (L_0.out.up hb)
    have man_1 := Lib.hid (man_0.out.up hb)
    have ducks_1 := Lib.hid (ducks_0.out.up hb)
    have q0_1 := cell_keep p0 hb hz
    have q1_1 := cell_keep p1 hb hz
    have z1 : w.heap.size < w1.heap.size := Nat.lt_of_lt_of_le hz hb.size
    clear p0 p1 hz hW
    clear hb
    go_wp2_with fail
    refine (known_ok w1).mono ?_
    rintro e w2 ⟨rfl, hb⟩
    have m0_2 := cell_keep m0_1 hb y_1
    have m1_2 := cell_keep m1_1 hb y_1
    have m2_2 := cell_keep m2_1 hb y_1
    have m3_2 := cell_keep m3_1 hb y_1
    have y_2 : W.heap.size < w2.heap.size := Nat.lt_of_lt_of_le y_1 hb.size
    clear m0_1 m1_1 m2_1 m3_1 y_1
    have B2 := Lib.hid (B1.out.trans (hb.mono B1.out.size))
    have RG2 := Lib.hid (RG1.out.up hb)
    have L_2 := Lib.hid (L_1.out.up hb)
    have man_2 := Lib.hid (man_1.out.up hb)
    have ducks_2 := Lib.hid (ducks_1.out.up hb)
    have q0_2 := cell_keep q0_1 hb z1
    have q1_2 := cell_keep q1_1 hb z1
    have z2 : w.heap.size < w2.heap.size := Nat.lt_of_lt_of_le z1 hb.size
    clear q0_1 q1_1 z1
    clear hb
    go_wp2_with fail
    go_ret
    exact ⟨rfl, B2.out⟩
end Go.Proofs.Ytibcjkpfpiamkaa

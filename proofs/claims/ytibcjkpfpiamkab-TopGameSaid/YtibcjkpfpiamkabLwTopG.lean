/-
  The walks of the laws TopGame: they return true. Conditions: the game and the lists can be read.
-/
import Derived.Test.YtibcjkpfpiamkabQ7
namespace Go.Proofs.Ytibcjkpfpiamkab
open Go.RowKit
set_option linter.unusedVariables false

theorem Same_t (A1 A2 : Option Addr) (c1 c2 : Nat) (l : List Int) (n1 n2 : Nat) (w : World) (hl1 : l.length = n1) (hl2 : l.length = n2) (hr1 : Rd w w.heap.size A1 (ints l)) (hr2 : Rd w w.heap.size A2 (ints l)) (hn : n1 ≤ 1000) :
    Calls Try.prog 5 #[.slice A1 n1 c1, .slice A2 n2 c2] w fun e w' => e = .returned (.bool true) ∧ Below w.heap.size w w' :=
  (SameInts_same A1 A2 c1 c2 l n1 n2 w hl1 hl2 hr1 hr2 hn).mono fun e w' ⟨he, m, hm⟩ => ⟨he, by rw [hm]; exact bdN (Below.refl _ _) m⟩
/-- The game that is laid first. -/
def kg3 (a : Nat) : Gv := ⟨some ⟨a, 0, none⟩, 2, [0, 0], some ⟨a + 3, 0, none⟩, 2, [⟨some ⟨a + 1, 0, none⟩, 1, [1]⟩, ⟨some ⟨a + 2, 0, none⟩, 1, [1]⟩]⟩
theorem kfit3 (a : Nat) : Gfit (kg3 a) := ⟨Nat.le_refl 2, (by decide : 2 ≤ maxLen), Nat.le_refl 2, (by decide : 2 ≤ maxLen), fun r hr => by
  simp [kg3] at hr
  rcases hr with rfl | rfl <;> exact ⟨by simp, by simp [maxLen]⟩⟩
def kObj3 (a : Nat) : List Obj := [.cells #[.int .i64 0, .int .i64 0] 3, .cells #[.int .i64 1] 3, .cells #[.int .i64 1] 3,
  .cells #[.slice (some ⟨a + 1, 0, none⟩) 1 1, .slice (some ⟨a + 2, 0, none⟩) 1 1] 22, .cells #[.int .i64 1] 3]
theorem kworld3 (w : World) : ∃ W, allocs w (kObj3 w.heap.size) = W ∧ RdG W W.heap.size (kg3 w.heap.size) ∧ Rd W W.heap.size (some ⟨w.heap.size + 4, 0, none⟩) (ints [1]) ∧ Below w.heap.size w W := by
  have hat := fun i o h => allocs_at (kObj3 w.heap.size) w i o h
  refine ⟨_, rfl, ⟨Rd.of_block (hat 0 _ rfl), Rd.of_block (hat 3 _ rfl), fun r hr => ?_⟩, Rd.of_block (hat 4 _ rfl), allocs_below _ _⟩
  simp [kg3] at hr
  rcases hr with rfl | rfl
  · exact Rd.of_block (hat 1 _ rfl)
  · exact Rd.of_block (hat 2 _ rfl)
theorem kn3 (a : Nat) : ranL (kg3 a).G [1] = [1, 0] := by
  have : (kg3 a).G = (kg3 0).G := rfl
  rw [this]
  decide +kernel
theorem ke3 (a : Nat) : askE (kg3 a).G [1] = 0 := by
  have : (kg3 a).G = (kg3 0).G := rfl
  rw [this]
  decide +kernel
theorem hitK_end {L X : List Int} (h : ∀ (j : Nat) d, j < X.length → X[j]? = some d → decide (d ∈ L) = false) : hitK L X X.length = false := by
  unfold hitK
  rw [List.take_length, List.any_eq_false]
  intro d hd
  obtain ⟨j, hj, he⟩ := List.getElem_of_mem hd
  rw [h j d hj (by rw [← he]; exact List.getElem?_eq_getElem hj)]
  decide
theorem hitK_yes {L X : List Int} {k : Nat} {d : Int} (h : X[k]? = some d) (hd : decide (d ∈ L) = true) : hitK L X X.length = true := by
  unfold hitK
  rw [List.take_length, List.any_eq_true]
  exact ⟨d, List.mem_of_getElem? h, hd⟩
set_option maxRecDepth 4000 in
theorem met_any (A1 A2 : Option Addr) (c1 c2 : Nat) (X L : List Int) (w : World) (h1 : Rd w w.heap.size A1 (ints X)) (h2 : Rd w w.heap.size A2 (ints L)) (n1 : X.length ≤ 9223372036854775807) (n2 : L.length ≤ 9223372036854775807) :
    Calls Try.prog 15 #[.slice A1 X.length c1, .slice A2 L.length c2] w fun e w' => e = .returned (.bool (hitK L X X.length)) ∧ Below w.heap.size w w' := by
  have R1 := Lib.hid h1
  have HQ0 := Lib.hid (fun d => Has_any A2 c2 L d w h2 n2)
  have HY := Lib.hid (fun k d h hd => hitK_yes (L := L) (X := X) (k := k) (d := d) h hd)
  have HN := Lib.hid (fun h => hitK_end (L := L) (X := X) h)
  generalize hitK L X X.length = B at *
  clear h1 h2
  go_enter Try.func15, Try.ntmps15
  go_wp2_with fail
  go_loopw [5] (fun i wr => ∃ k : Nat, k ≤ X.length ∧ i = .int .i64 k ∧ (∀ (j : Nat) d, j < k → X[j]? = some d → decide (d ∈ L) = false) ∧ wr = w) (fun i _ => X.length - (intOf i).toNat)
  case atStart => exact ⟨0, by omega, rfl, fun j d hj => by omega, rfl⟩
  case round =>
    obtain ⟨k, hk, rfl, hall, rfl⟩ := hrel
    have HA := Lib.hid hall
    clear hall
    by_cases hlt : k < X.length
    · obtain ⟨b, o, d, rfl, hd, hc⟩ := R1.out.int k hlt
      have HQ := Lib.hid (HQ0.out d)
      cases hq : decide (d ∈ L)
      · have HX := Lib.hid (show ∀ (j : Nat) e, j < k + 1 → X[j]? = some e → decide (e ∈ L) = false from fun j e hj he => by
          by_cases hjk : j = k
          · subst hjk
            obtain rfl := Option.some.inj (hd.out.symm.trans he)
            exact hq
          · exact HA.out j e (by omega) he)
        rw [hq] at HQ
        clear hq
        go_wp2_with fail
        refine (HQ.out).mono ?_
        rintro e w' ⟨rfl, rfl⟩
        go_wp2_with fail
        go_roundw
        case rel => exact ⟨k + 1, by omega, by go_num, HX.out, by first | rfl | trivial⟩
        case measure => simp [intOf]; omega
      · have HX := Lib.hid (HY.out k d hd.out hq)
        rw [hq] at HQ
        clear hq
        go_wp2_with fail
        refine (HQ.out).mono ?_
        rintro e w' ⟨rfl, rfl⟩
        go_wp2_with fail
        go_ret
        exact ⟨by rw [HX.out]; rfl, Below.refl _ _⟩
    · have hks : k = X.length := by omega
      subst hks
      have HX := Lib.hid (HN.out HA.out)
      go_wp2_with fail
      go_ret
      exact ⟨by rw [HX.out]; rfl, Below.refl _ _⟩
section
variable {G : Gm} {L : List Int}
theorem in_lst {x i : Nat} (hi : i < 16) : decide ((i : Int) ∈ lst x) = x.testBit i := by
  rw [Bool.eq_iff_iff, decide_eq_true_eq]
  constructor
  · intro h
    obtain ⟨j, hj, _, hb⟩ := listK_mem h
    have : i = j := by omega
    rw [this]; exact hb
  · intro h
    exact List.mem_map.2 ⟨i, by simp [hi, h], rfl⟩
theorem top_win (h : askE G L = 0) {i : Nat} {r : Int} (hr : (ranL G L)[i]? = some r) : decide ((i : Int) ∈ winL G L) = decide (0 ≤ r) := by
  obtain ⟨hG, hs⟩ := askE_zero h
  have h16 := (gE_zero hG).le
  have hg : gatN L < 2 ^ G.own.length := gat_lt hs (by omega)
  unfold ranL at hr
  rw [if_pos h] at hr
  have hi : i < G.own.length := by have := (List.getElem?_eq_some_iff.1 hr).1; rwa [rkL_len] at this
  rw [rkL_at hi] at hr
  obtain rfl := Option.some.inj hr
  unfold winL
  rw [if_pos h, in_lst (by omega), Bool.eq_iff_iff, decide_eq_true_eq]
  exact rk_won hg i
theorem top_free (h : askE G L = 0) {i : Nat} {r : Int} (hr : (ranL G L)[i]? = some r) : decide ((i : Int) ∈ freL G L) = !decide (0 ≤ r) := by
  have hw := top_win h hr
  obtain ⟨hG, hs⟩ := askE_zero h
  have h16 := (gE_zero hG).le
  have hi : i < G.own.length := by
    unfold ranL at hr
    rw [if_pos h] at hr
    have := (List.getElem?_eq_some_iff.1 hr).1; rwa [rkL_len] at this
  unfold winL at hw
  rw [if_pos h, in_lst (by omega)] at hw
  unfold freL
  rw [if_pos h, in_lst (by omega), free_at hi, hw]
theorem top_with (h : askE G L = 0) {i n : Nat} {r : Int} (hn : n ≤ 16) (hr : (ranL G L)[i]? = some r) : decide ((i : Int) ∈ witL G L n) = (decide (0 ≤ r) && decide (r ≤ (n : Int))) := by
  obtain ⟨hG, hs⟩ := askE_zero h
  have h16 := (gE_zero hG).le
  have hg : gatN L < 2 ^ G.own.length := gat_lt hs (by omega)
  unfold ranL at hr
  rw [if_pos h] at hr
  have hi : i < G.own.length := by have := (List.getElem?_eq_some_iff.1 hr).1; rwa [rkL_len] at this
  rw [rkL_at hi] at hr
  obtain rfl := Option.some.inj hr
  unfold witL
  rw [if_pos ⟨h, inW_iff.2 ⟨by omega, by omega⟩⟩, in_lst (by omega), Int.toNat_natCast, Bool.eq_iff_iff, Bool.and_eq_true, decide_eq_true_eq, decide_eq_true_eq]
  exact rk_iff hg i n
theorem top_withE (h : askE G L = 0) {n : Nat} (hn : n ≤ 16) : witE G L n = 0 := by
  unfold witE
  rw [if_pos h, if_pos (inW_iff.2 ⟨by omega, by omega⟩)]
/-- What is visited again and again can be kept to within what is won. -/
theorem ag_kept {goal : Nat} (H : Ok G) (hg : goal < 2 ^ G.own.length) : sub (agN G goal) (kpN G (wonN G goal)) := by
  refine itr_great (kp_mono G) ?_ (ag_won hg) _
  have hfix := ag_fix (G := G) hg
  have hlv : ∀ k, sub (lv G (goal &&& fcN G 0 (agN G goal)) k) (fcN G 0 (agN G goal)) := by
    intro k
    cases k with
    | zero => exact sub_zero _
    | succ k =>
      intro j hj
      have e : lv G (goal &&& fcN G 0 (agN G goal)) (k + 1) = (goal &&& fcN G 0 (agN G goal)) ||| fcN G 0 (lv G (goal &&& fcN G 0 (agN G goal)) k) := rfl
      rw [e, Nat.testBit_or, Bool.or_eq_true] at hj
      rcases hj with hj | hj
      · exact and_sub_right _ _ j hj
      · refine fcN_mono ?_ j hj
        rcases Nat.lt_or_ge k G.own.length with h1 | h1
        · intro i hi
          rw [← hfix]
          exact lv_mono (Nat.le_of_lt h1) i hi
        · intro i hi
          rw [lv_end (goal_and hg _) h1] at hi
          rw [← hfix]
          exact hi
  intro j hj
  show (agN G goal &&& fcN G 0 (agN G goal)).testBit j = true
  rw [Nat.testBit_and, hj, Bool.true_and]
  rw [← hfix] at hj
  exact hlv _ j hj
theorem top_kept (h : askE G L = 0) {k : Nat} {d : Int} (hd : (agaL G L)[k]? = some d) : decide (d ∈ kepL G (winL G L)) = true := by
  obtain ⟨hG, hs⟩ := askE_zero h
  have H := gE_zero hG
  have h16 := H.le
  have hg : gatN L < 2 ^ G.own.length := gat_lt hs (by omega)
  have hw : wonN G (gatN L) < 2 ^ G.own.length := lv_lt hg _
  unfold agaL at hd
  rw [if_pos h] at hd
  have e1 : winL G L = lst (wonN G (gatN L)) := if_pos h
  have hset : setL G.own.length (lst (wonN G (gatN L))) = true := by
    unfold lst
    rw [listK_high (fun j hj => high_bits hw hj) h16]
    exact setL_listK _ _
  have h2 : askE G (winL G L) = 0 := by rw [e1]; unfold askE; rw [if_pos hG, if_pos hset]
  unfold kepL
  rw [if_pos h2, e1, gat_lst hw h16]
  exact lst_in (ag_kept H hg) hd
theorem top_keptE (h : askE G L = 0) : askE G (winL G L) = 0 := by
  obtain ⟨hG, hs⟩ := askE_zero h
  have h16 := (gE_zero hG).le
  have hg : gatN L < 2 ^ G.own.length := gat_lt hs (by omega)
  have hw : wonN G (gatN L) < 2 ^ G.own.length := lv_lt hg _
  have e1 : winL G L = lst (wonN G (gatN L)) := if_pos h
  have hset : setL G.own.length (lst (wonN G (gatN L))) = true := by
    unfold lst
    rw [listK_high (fun j hj => high_bits hw hj) h16]
    exact setL_listK _ _
  rw [e1]; unfold askE; rw [if_pos hG, if_pos hset]
theorem top_hit {ducks : List Int} {p m : Nat} (h : askE G L = 0) (hr : (ranL G L)[p]? = some (m : Int)) (hE : plyE G (plaL G L) ducks p m = 0) : hitK L (plyL G (plaL G L) ducks p m) (plyL G (plaL G L) ducks p m).length = true := by
  unfold ranL at hr
  rw [if_pos h] at hr
  have hi : p < G.own.length := by have := (List.getElem?_eq_some_iff.1 hr).1; rwa [rkL_len] at this
  rw [rkL_at hi] at hr
  exact forces_hit h hi (Option.some.inj hr) hE
theorem top_miss {man : List Int} {p : Nat} {m r : Int} (h : askE G L = 0) (hr : (ranL G L)[p]? = some r) (hn : r < 0) : hitK L (plyL G man (fleL G L) p m) (plyL G man (fleL G L) p m).length = false := by
  unfold ranL at hr
  rw [if_pos h] at hr
  have hi : p < G.own.length := by have := (List.getElem?_eq_some_iff.1 hr).1; rwa [rkL_len] at this
  rw [rkL_at hi] at hr
  obtain rfl := Option.some.inj hr
  exact hitK_end fun j d _ hd => forces_miss h hi hn hd
end
set_option maxRecDepth 8000 in
set_option maxHeartbeats 12000000 in
theorem TopGame_walk (g : Gv) (A : Option Addr) (c : Nat) (L : List Int) (mt : Mt) (w : World) (hr : RdG w w.heap.size g) (hf : Gfit g) (hq : Rd w w.heap.size A (ints L)) (hl : L.length ≤ c) (hc : c ≤ maxLen) (hmt : Mfit w mt) :
    Calls Try.prog 3 #[g.v, .slice A L.length c, mt.v] w fun e w' => e = .returned (.bool true) ∧ Below w.heap.size w w' := by
  obtain ⟨W, hW, p0', p1', hz', hb', hr1'⟩ := box_game w g 25 hr
  obtain ⟨W0, hW0, k0, s0, b0⟩ := one_blk W #[.slice mt.A0 mt.man.length mt.c0, .slice mt.A1 mt.ducks.length mt.c1, .int .i64 mt.from_, .int .i64 mt.moves] 27
  obtain ⟨W5, hW5, hk3, hr3, b5⟩ := kworld3 W0
  have hb : Below w.heap.size w W5 := (hb'.trans (b0.mono hb'.size)).trans (b5.mono (hb'.trans (b0.mono hb'.size)).size)
  have m0_0 := cell_keep (show W0.cell? ⟨W.heap.size, 0, none⟩ = some (.slice mt.A0 mt.man.length mt.c0) by rw [blk_cell k0]; rfl) b5 s0
  have m1_0 := cell_keep (show W0.cell? ⟨W.heap.size, 1, none⟩ = some (.slice mt.A1 mt.ducks.length mt.c1) by rw [blk_cell k0]; rfl) b5 s0
  have m2_0 := cell_keep (show W0.cell? ⟨W.heap.size, 2, none⟩ = some (.int .i64 mt.from_) by rw [blk_cell k0]; rfl) b5 s0
  have m3_0 := cell_keep (show W0.cell? ⟨W.heap.size, 3, none⟩ = some (.int .i64 mt.moves) by rw [blk_cell k0]; rfl) b5 s0
  have hz0 : w.heap.size < W0.heap.size := Nat.lt_of_lt_of_le hz' b0.size
  have p0 := cell_keep (cell_keep p0' b0 hz') b5 hz0
  have p1 := cell_keep (cell_keep p1' b0 hz') b5 hz0
  have hz : w.heap.size < W5.heap.size := Nat.lt_of_lt_of_le hz0 b5.size
  have y_0 : W.heap.size < W5.heap.size := Nat.lt_of_lt_of_le s0 b5.size
  have hr1 := (hr1'.up b0).up b5
  have B0 := Lib.hid hb
  have RG0 := Lib.hid hr1
  have HLg := Lib.hid (fun w h => Large_any g w h hf)
  have man_0 := Lib.hid (hmt.r0.up hb)
  have ducks_0 := Lib.hid (hmt.r1.up hb)
  have L_0 := Lib.hid (hq.up hb)
  have HR := Lib.hid (Ranks_any (kg3 W0.heap.size) (some ⟨W0.heap.size + 4, 0, none⟩) 1 [1] W5 hk3 (kfit3 _) hr3 (by decide))
  rw [kn3, ke3] at HR
  unfold Gv.v kg3 at HR
  simp only at HR
  unfold allocs kObj3 at hW5
  simp only [List.foldl_cons, List.foldl_nil] at hW5
  have hmL : L.length ≤ 9223372036854775807 := by unfold maxLen at hc; omega
  have hmman : mt.man.length ≤ 9223372036854775807 := by have h1 := hmt.l0; have h2 := hmt.k0; unfold maxLen at h2; omega
  have hmducks : mt.ducks.length ≤ 9223372036854775807 := by have h1 := hmt.l1; have h2 := hmt.k1; unfold maxLen at h2; omega
  clear hr hb hr1 hr1' hb' p0' p1' hz' b0 k0 s0 hmt hq hl hc hk3 hr3 b5 hz0
  unfold Mt.v
  obtain ⟨MA, mc, man, DA, dc, ducks, from_, moves⟩ := mt
  simp only at hW0 m0_0 m1_0 m2_0 m3_0 man_0 ducks_0 hmman hmducks ⊢
  cases hbl : largeB g
  · obtain ⟨n100, r100, rr100⟩ := large_fit hbl
    rw [hbl] at HLg
    by_cases hlongL : 100 < L.length
    · have eL : decide ((100 : Int) < (L.length : Int)) = true := by rw [decide_eq_true_eq]; omega
      clear hlongL n100 r100 rr100
      clear hf hbl
      unfold Gv.v at HLg ⊢
      obtain ⟨A0, c0, own, A1, c1, rs⟩ := g
      simp only at *
      go_enter Try.func3, Try.ntmps3
      go_wp2_with fail
      refine HR.out.mono ?_
      rintro e w1 ⟨Ak, ck, rfl, hck, hfk, hrk, hb⟩
      clear hW5
      have m0_1 := cell_keep m0_0 hb y_0
      have m1_1 := cell_keep m1_0 hb y_0
      have m2_1 := cell_keep m2_0 hb y_0
      have m3_1 := cell_keep m3_0 hb y_0
      have y_1 : W.heap.size < w1.heap.size := Nat.lt_of_lt_of_le y_0 hb.size
      clear m0_0 m1_0 m2_0 m3_0 y_0 hW0
      have B1 := Lib.hid (B0.out.trans (hb.mono B0.out.size))
      have RG1 := Lib.hid (RG0.out.up hb)
      have L_1 := Lib.hid (L_0.out.up hb)
      have man_1 := Lib.hid (man_0.out.up hb)
      have ducks_1 := Lib.hid (ducks_0.out.up hb)
      have q0_1 := cell_keep p0 hb hz
      have q1_1 := cell_keep p1 hb hz
      have z1 : w.heap.size < w1.heap.size := Nat.lt_of_lt_of_le hz hb.size
      clear p0 p1 hz hW
      clear hb
      have KK1 := Lib.hid hrk
      clear hrk hfk
      have hb : Below w1.heap.size w1 (w1.alloc (.cells (ints [1, 0]).toArray 3)) := (Below.refl _ _).alloc (Nat.le_refl _) _
      have lit2 := Lib.hid (Rd.lit w1 (ints [1, 0]) 3)
      have KK2 := Lib.hid (KK1.out.up hb)
      obtain ⟨w2, hw2⟩ : ∃ w2, w1.alloc (.cells (ints [1, 0]).toArray 3) = w2 := ⟨_, rfl⟩
      rw [hw2] at hb lit2 KK2
      have HW2 := Lib.hid hw2
      clear hw2
      have m0_2 := cell_keep m0_1 hb y_1
      have m1_2 := cell_keep m1_1 hb y_1
      have m2_2 := cell_keep m2_1 hb y_1
      have m3_2 := cell_keep m3_1 hb y_1
      have y_2 : W.heap.size < w2.heap.size := Nat.lt_of_lt_of_le y_1 hb.size
      clear m0_1 m1_1 m2_1 m3_1 y_1
      have B2 := Lib.hid (B1.out.trans (hb.mono B1.out.size))
      have RG2 := Lib.hid (RG1.out.up hb)
      have L_2 := Lib.hid (L_1.out.up hb)
      have man_2 := Lib.hid (man_1.out.up hb)
      have ducks_2 := Lib.hid (ducks_1.out.up hb)
      have q0_2 := cell_keep q0_1 hb z1
      have q1_2 := cell_keep q1_1 hb z1
      have z2 : w.heap.size < w2.heap.size := Nat.lt_of_lt_of_le z1 hb.size
      clear q0_1 q1_1 z1
      clear hb
      go_wp2_with fail
      rw [show w1.alloc (.cells #[.int .i64 1, .int .i64 0] 3) = w2 from HW2.out]
      refine (Same_t Ak _ ck _ [1, 0] 2 2 w2 rfl rfl KK2.out lit2.out (by decide)).mono ?_
      rintro e w3 ⟨rfl, hb⟩
      have m0_3 := cell_keep m0_2 hb y_2
      have m1_3 := cell_keep m1_2 hb y_2
      have m2_3 := cell_keep m2_2 hb y_2
      have m3_3 := cell_keep m3_2 hb y_2
      have y_3 : W.heap.size < w3.heap.size := Nat.lt_of_lt_of_le y_2 hb.size
      clear m0_2 m1_2 m2_2 m3_2 y_2
      have B3 := Lib.hid (B2.out.trans (hb.mono B2.out.size))
      have RG3 := Lib.hid (RG2.out.up hb)
      have L_3 := Lib.hid (L_2.out.up hb)
      have man_3 := Lib.hid (man_2.out.up hb)
      have ducks_3 := Lib.hid (ducks_2.out.up hb)
      have q0_3 := cell_keep q0_2 hb z2
      have q1_3 := cell_keep q1_2 hb z2
      have z3 : w.heap.size < w3.heap.size := Nat.lt_of_lt_of_le z2 hb.size
      clear q0_2 q1_2 z2
      clear hb
      go_wp2_with fail
      refine (HLg.out w3 RG3.out).mono ?_
      rintro e w4 ⟨rfl, hb⟩
      have m0_4 := cell_keep m0_3 hb y_3
      have m1_4 := cell_keep m1_3 hb y_3
      have m2_4 := cell_keep m2_3 hb y_3
      have m3_4 := cell_keep m3_3 hb y_3
      have y_4 : W.heap.size < w4.heap.size := Nat.lt_of_lt_of_le y_3 hb.size
      clear m0_3 m1_3 m2_3 m3_3 y_3
      have B4 := Lib.hid (B3.out.trans (hb.mono B3.out.size))
      have RG4 := Lib.hid (RG3.out.up hb)
      have L_4 := Lib.hid (L_3.out.up hb)
      have man_4 := Lib.hid (man_3.out.up hb)
      have ducks_4 := Lib.hid (ducks_3.out.up hb)
      have q0_4 := cell_keep q0_3 hb z3
      have q1_4 := cell_keep q1_3 hb z3
      have z4 : w.heap.size < w4.heap.size := Nat.lt_of_lt_of_le z3 hb.size
      clear q0_3 q1_3 z3
      clear hb
      go_wp2_with fail
      go_ret
      exact ⟨rfl, B4.out⟩
    · have eL : decide ((100 : Int) < (L.length : Int)) = false := by rw [decide_eq_false_iff_not]; omega
      have h100L : L.length ≤ 100 := by omega
      clear hlongL
      by_cases hlongman : 100 < man.length
      · have eman : decide ((100 : Int) < (man.length : Int)) = true := by rw [decide_eq_true_eq]; omega
        clear hlongman n100 r100 rr100
        clear hf hbl
        unfold Gv.v at HLg ⊢
        obtain ⟨A0, c0, own, A1, c1, rs⟩ := g
        simp only at *
        go_enter Try.func3, Try.ntmps3
        go_wp2_with fail
        refine HR.out.mono ?_
        rintro e w1 ⟨Ak, ck, rfl, hck, hfk, hrk, hb⟩
        clear hW5
        have m0_1 := cell_keep m0_0 hb y_0
        have m1_1 := cell_keep m1_0 hb y_0
        have m2_1 := cell_keep m2_0 hb y_0
        have m3_1 := cell_keep m3_0 hb y_0
        have y_1 : W.heap.size < w1.heap.size := Nat.lt_of_lt_of_le y_0 hb.size
        clear m0_0 m1_0 m2_0 m3_0 y_0 hW0
        have B1 := Lib.hid (B0.out.trans (hb.mono B0.out.size))
        have RG1 := Lib.hid (RG0.out.up hb)
        have L_1 := Lib.hid (L_0.out.up hb)
        have man_1 := Lib.hid (man_0.out.up hb)
        have ducks_1 := Lib.hid (ducks_0.out.up hb)
        have q0_1 := cell_keep p0 hb hz
        have q1_1 := cell_keep p1 hb hz
        have z1 : w.heap.size < w1.heap.size := Nat.lt_of_lt_of_le hz hb.size
        clear p0 p1 hz hW
        clear hb
        have KK1 := Lib.hid hrk
        clear hrk hfk
        have hb : Below w1.heap.size w1 (w1.alloc (.cells (ints [1, 0]).toArray 3)) := (Below.refl _ _).alloc (Nat.le_refl _) _
        have lit2 := Lib.hid (Rd.lit w1 (ints [1, 0]) 3)
        have KK2 := Lib.hid (KK1.out.up hb)
        obtain ⟨w2, hw2⟩ : ∃ w2, w1.alloc (.cells (ints [1, 0]).toArray 3) = w2 := ⟨_, rfl⟩
        rw [hw2] at hb lit2 KK2
        have HW2 := Lib.hid hw2
        clear hw2
        have m0_2 := cell_keep m0_1 hb y_1
        have m1_2 := cell_keep m1_1 hb y_1
        have m2_2 := cell_keep m2_1 hb y_1
        have m3_2 := cell_keep m3_1 hb y_1
        have y_2 : W.heap.size < w2.heap.size := Nat.lt_of_lt_of_le y_1 hb.size
        clear m0_1 m1_1 m2_1 m3_1 y_1
        have B2 := Lib.hid (B1.out.trans (hb.mono B1.out.size))
        have RG2 := Lib.hid (RG1.out.up hb)
        have L_2 := Lib.hid (L_1.out.up hb)
        have man_2 := Lib.hid (man_1.out.up hb)
        have ducks_2 := Lib.hid (ducks_1.out.up hb)
        have q0_2 := cell_keep q0_1 hb z1
        have q1_2 := cell_keep q1_1 hb z1
        have z2 : w.heap.size < w2.heap.size := Nat.lt_of_lt_of_le z1 hb.size
        clear q0_1 q1_1 z1
        clear hb
        go_wp2_with fail
        rw [show w1.alloc (.cells #[.int .i64 1, .int .i64 0] 3) = w2 from HW2.out]
        refine (Same_t Ak _ ck _ [1, 0] 2 2 w2 rfl rfl KK2.out lit2.out (by decide)).mono ?_
        rintro e w3 ⟨rfl, hb⟩
        have m0_3 := cell_keep m0_2 hb y_2
        have m1_3 := cell_keep m1_2 hb y_2
        have m2_3 := cell_keep m2_2 hb y_2
        have m3_3 := cell_keep m3_2 hb y_2
        have y_3 : W.heap.size < w3.heap.size := Nat.lt_of_lt_of_le y_2 hb.size
        clear m0_2 m1_2 m2_2 m3_2 y_2
        have B3 := Lib.hid (B2.out.trans (hb.mono B2.out.size))
        have RG3 := Lib.hid (RG2.out.up hb)
        have L_3 := Lib.hid (L_2.out.up hb)
        have man_3 := Lib.hid (man_2.out.up hb)
        have ducks_3 := Lib.hid (ducks_2.out.up hb)
        have q0_3 := cell_keep q0_2 hb z2
        have q1_3 := cell_keep q1_2 hb z2
        have z3 : w.heap.size < w3.heap.size := Nat.lt_of_lt_of_le z2 hb.size
        clear q0_2 q1_2 z2
        clear hb
        go_wp2_with fail
        refine (HLg.out w3 RG3.out).mono ?_
        rintro e w4 ⟨rfl, hb⟩
        have m0_4 := cell_keep m0_3 hb y_3
        have m1_4 := cell_keep m1_3 hb y_3
        have m2_4 := cell_keep m2_3 hb y_3
        have m3_4 := cell_keep m3_3 hb y_3
        have y_4 : W.heap.size < w4.heap.size := Nat.lt_of_lt_of_le y_3 hb.size
        clear m0_3 m1_3 m2_3 m3_3 y_3
        have B4 := Lib.hid (B3.out.trans (hb.mono B3.out.size))
        have RG4 := Lib.hid (RG3.out.up hb)
        have L_4 := Lib.hid (L_3.out.up hb)
        have man_4 := Lib.hid (man_3.out.up hb)
        have ducks_4 := Lib.hid (ducks_3.out.up hb)
        have q0_4 := cell_keep q0_3 hb z3
        have q1_4 := cell_keep q1_3 hb z3
        have z4 : w.heap.size < w4.heap.size := Nat.lt_of_lt_of_le z3 hb.size
        clear q0_3 q1_3 z3
        clear hb
        go_wp2_with fail
        go_ret
        exact ⟨rfl, B4.out⟩
      · have eman : decide ((100 : Int) < (man.length : Int)) = false := by rw [decide_eq_false_iff_not]; omega
        have h100man : man.length ≤ 100 := by omega
        clear hlongman
        by_cases hlongducks : 100 < ducks.length
        · have educks : decide ((100 : Int) < (ducks.length : Int)) = true := by rw [decide_eq_true_eq]; omega
          clear hlongducks n100 r100 rr100
          clear hf hbl
          unfold Gv.v at HLg ⊢
          obtain ⟨A0, c0, own, A1, c1, rs⟩ := g
          simp only at *
          go_enter Try.func3, Try.ntmps3
          go_wp2_with fail
          refine HR.out.mono ?_
          rintro e w1 ⟨Ak, ck, rfl, hck, hfk, hrk, hb⟩
          clear hW5
          have m0_1 := cell_keep m0_0 hb y_0
          have m1_1 := cell_keep m1_0 hb y_0
          have m2_1 := cell_keep m2_0 hb y_0
          have m3_1 := cell_keep m3_0 hb y_0
          have y_1 : W.heap.size < w1.heap.size := Nat.lt_of_lt_of_le y_0 hb.size
          clear m0_0 m1_0 m2_0 m3_0 y_0 hW0
          have B1 := Lib.hid (B0.out.trans (hb.mono B0.out.size))
          have RG1 := Lib.hid (RG0.out.up hb)
          have L_1 := Lib.hid (L_0.out.up hb)
          have man_1 := Lib.hid (man_0.out.up hb)
          have ducks_1 := Lib.hid (ducks_0.out.up hb)
          have q0_1 := cell_keep p0 hb hz
          have q1_1 := cell_keep p1 hb hz
          have z1 : w.heap.size < w1.heap.size := Nat.lt_of_lt_of_le hz hb.size
          clear p0 p1 hz hW
          clear hb
          have KK1 := Lib.hid hrk
          clear hrk hfk
          have hb : Below w1.heap.size w1 (w1.alloc (.cells (ints [1, 0]).toArray 3)) := (Below.refl _ _).alloc (Nat.le_refl _) _
          have lit2 := Lib.hid (Rd.lit w1 (ints [1, 0]) 3)
          have KK2 := Lib.hid (KK1.out.up hb)
          obtain ⟨w2, hw2⟩ : ∃ w2, w1.alloc (.cells (ints [1, 0]).toArray 3) = w2 := ⟨_, rfl⟩
          rw [hw2] at hb lit2 KK2
          have HW2 := Lib.hid hw2
          clear hw2
          have m0_2 := cell_keep m0_1 hb y_1
          have m1_2 := cell_keep m1_1 hb y_1
          have m2_2 := cell_keep m2_1 hb y_1
          have m3_2 := cell_keep m3_1 hb y_1
          have y_2 : W.heap.size < w2.heap.size := Nat.lt_of_lt_of_le y_1 hb.size
          clear m0_1 m1_1 m2_1 m3_1 y_1
          have B2 := Lib.hid (B1.out.trans (hb.mono B1.out.size))
          have RG2 := Lib.hid (RG1.out.up hb)
          have L_2 := Lib.hid (L_1.out.up hb)
          have man_2 := Lib.hid (man_1.out.up hb)
          have ducks_2 := Lib.hid (ducks_1.out.up hb)
          have q0_2 := cell_keep q0_1 hb z1
          have q1_2 := cell_keep q1_1 hb z1
          have z2 : w.heap.size < w2.heap.size := Nat.lt_of_lt_of_le z1 hb.size
          clear q0_1 q1_1 z1
          clear hb
          go_wp2_with fail
          rw [show w1.alloc (.cells #[.int .i64 1, .int .i64 0] 3) = w2 from HW2.out]
          refine (Same_t Ak _ ck _ [1, 0] 2 2 w2 rfl rfl KK2.out lit2.out (by decide)).mono ?_
          rintro e w3 ⟨rfl, hb⟩
          have m0_3 := cell_keep m0_2 hb y_2
          have m1_3 := cell_keep m1_2 hb y_2
          have m2_3 := cell_keep m2_2 hb y_2
          have m3_3 := cell_keep m3_2 hb y_2
          have y_3 : W.heap.size < w3.heap.size := Nat.lt_of_lt_of_le y_2 hb.size
          clear m0_2 m1_2 m2_2 m3_2 y_2
          have B3 := Lib.hid (B2.out.trans (hb.mono B2.out.size))
          have RG3 := Lib.hid (RG2.out.up hb)
          have L_3 := Lib.hid (L_2.out.up hb)
          have man_3 := Lib.hid (man_2.out.up hb)
          have ducks_3 := Lib.hid (ducks_2.out.up hb)
          have q0_3 := cell_keep q0_2 hb z2
          have q1_3 := cell_keep q1_2 hb z2
          have z3 : w.heap.size < w3.heap.size := Nat.lt_of_lt_of_le z2 hb.size
          clear q0_2 q1_2 z2
          clear hb
          go_wp2_with fail
          refine (HLg.out w3 RG3.out).mono ?_
          rintro e w4 ⟨rfl, hb⟩
          have m0_4 := cell_keep m0_3 hb y_3
          have m1_4 := cell_keep m1_3 hb y_3
          have m2_4 := cell_keep m2_3 hb y_3
          have m3_4 := cell_keep m3_3 hb y_3
          have y_4 : W.heap.size < w4.heap.size := Nat.lt_of_lt_of_le y_3 hb.size
          clear m0_3 m1_3 m2_3 m3_3 y_3
          have B4 := Lib.hid (B3.out.trans (hb.mono B3.out.size))
          have RG4 := Lib.hid (RG3.out.up hb)
          have L_4 := Lib.hid (L_3.out.up hb)
          have man_4 := Lib.hid (man_3.out.up hb)
          have ducks_4 := Lib.hid (ducks_3.out.up hb)
          have q0_4 := cell_keep q0_3 hb z3
          have q1_4 := cell_keep q1_3 hb z3
          have z4 : w.heap.size < w4.heap.size := Nat.lt_of_lt_of_le z3 hb.size
          clear q0_3 q1_3 z3
          clear hb
          go_wp2_with fail
          go_ret
          exact ⟨rfl, B4.out⟩
        · have educks : decide ((100 : Int) < (ducks.length : Int)) = false := by rw [decide_eq_false_iff_not]; omega
          have h100ducks : ducks.length ≤ 100 := by omega
          clear hlongducks
          have C1 := Lib.hid (fun w h q => Ranks_any g A c L w h hf q hmL)
          have C2 := Lib.hid (fun w h q => Wins_any g A c L w h hf q hmL)
          have C3 := Lib.hid (fun w h q => Free_any g A c L w h hf q hmL)
          by_cases hV : askE g.G L = 0
          · rw [hV] at C1 C2 C3
            have H := gE_zero (askE_zero hV).1
            have D1 := Lib.hid (fun A3 c3 w h q r => CheckRanks_any g A c L A3 c3 (ranL g.G L) w h hf q hmL r (by have := ran_le g.G L (fun h => (gE_zero h).le); omega))
            have D2 := Lib.hid (fun A5 c5 w h q r => CheckTrap_any g A c L A5 c5 (freL g.G L) w h hf q hmL r (by have := fre_le g.G L; omega))
            rw [cert_rank hV] at D1
            rw [cert_free hV] at D2
            have D3 := Lib.hid (fun w h q => Plan_any g A c L w h hf q hmL)
            have D4 := Lib.hid (fun w h q => Flee_any g A c L w h hf q hmL)
            have D5 := Lib.hid (fun w h q => Again_any g A c L w h hf q hmL)
            have D6 := Lib.hid (fun A4 c4 w h q => Keeps_any g A4 c4 (winL g.G L) w h hf q (by have := win_le g.G L; omega))
            rw [hV] at D3 D4 D5
            rw [top_keptE hV] at D6
            have D7 := Lib.hid (fun (n : Nat) (hn : n ≤ 16) w h q => (by have h := Within_any g A c L n w h hf q hmL; rw [top_withE hV hn] at h; exact h : Calls Try.prog 18 #[g.v, .slice A L.length c, .int .i64 n] w (MadeIE w (witL g.G L n) 0)))
            have P1 := Lib.hid (fun A6 c6 (p m : Nat) w h q r => Play_any g A6 c6 (plaL g.G L) DA dc ducks p m w h hf q r)
            have P2 := Lib.hid (fun A7 c7 (p : Nat) w h q r => Play_any g MA mc man A7 c7 (fleL g.G L) p 40 w h hf q r)
            have HHit := Lib.hid (fun (p m : Nat) h hE => top_hit (ducks := ducks) (p := p) (m := m) hV h hE)
            have HMiss := Lib.hid (fun (p : Nat) (r : Int) h hn => top_miss (man := man) (p := p) (m := 40) (r := r) hV h hn)
            have HWin := Lib.hid (fun (i : Nat) (r : Int) h => top_win (i := i) (r := r) hV h)
            have HFre := Lib.hid (fun (i : Nat) (r : Int) h => top_free (i := i) (r := r) hV h)
            have HWit := Lib.hid (fun (i n : Nat) (r : Int) hn h => top_with (i := i) (n := n) (r := r) hV hn h)
            have HAW := Lib.hid (fun k d h => aga_win (G := g.G) (L := L) (k := k) (d := d) h)
            have HAK := Lib.hid (fun k d h => top_kept hV (k := k) (d := d) h)
            have HLe := Lib.hid (show (ranL g.G L).length = g.own.length ∧ g.own.length ≤ 16 ∧ (winL g.G L).length + (freL g.G L).length = (ranL g.G L).length ∧ (winL g.G L).length ≤ 16 ∧ (freL g.G L).length ≤ 16 ∧ (agaL g.G L).length ≤ 16 ∧ (kepL g.G (winL g.G L)).length ≤ 16 ∧ (∀ n : Nat, (witL g.G L n).length ≤ 16) from ⟨by unfold ranL; rw [if_pos hV]; exact rkL_len _ _, H.le, parts_len _ _, win_le _ _, fre_le _ _, aga_le _ _, kep_le _ _, fun n => wit_le _ _ _⟩)
            have HPL := Lib.hid (fun man ducks f m => ply_le g.G man ducks f m)
            clear hf hbl n100 r100 rr100 hV H
            generalize plaL g.G L = PL at *
            generalize fleL g.G L = FL at *
            generalize kepL g.G (winL g.G L) = KP at *
            generalize agaL g.G L = AG at *
            generalize ranL g.G L = R at *
            generalize winL g.G L = Wn at *
            generalize freL g.G L = Fr at *
            obtain ⟨WIT, hWIT⟩ : ∃ f : Nat → List Int, (fun n : Nat => witL g.G L n) = f := ⟨_, rfl⟩
            have hWIT2 : ∀ n : Nat, witL g.G L n = WIT n := fun n => congrFun hWIT n
            simp only [hWIT2] at D7 HWit HLe
            clear hWIT hWIT2
            generalize g.G = G at *
            unfold Gv.v at HLg C1 C2 C3 D1 D2 D3 D4 D5 D6 D7 P1 P2 ⊢
            obtain ⟨A0, c0, own, A1, c1, rs⟩ := g
            simp only at *
            go_enter Try.func3, Try.ntmps3
            go_wp2_with fail
            refine HR.out.mono ?_
            rintro e w1 ⟨Ak, ck, rfl, hck, hfk, hrk, hb⟩
            clear hW5
            have m0_1 := cell_keep m0_0 hb y_0
            have m1_1 := cell_keep m1_0 hb y_0
            have m2_1 := cell_keep m2_0 hb y_0
            have m3_1 := cell_keep m3_0 hb y_0
            have y_1 : W.heap.size < w1.heap.size := Nat.lt_of_lt_of_le y_0 hb.size
            clear m0_0 m1_0 m2_0 m3_0 y_0 hW0
            have B1 := Lib.hid (B0.out.trans (hb.mono B0.out.size))
            have RG1 := Lib.hid (RG0.out.up hb)
            have L_1 := Lib.hid (L_0.out.up hb)
            have man_1 := Lib.hid (man_0.out.up hb)
            have ducks_1 := Lib.hid (ducks_0.out.up hb)
            have q0_1 := cell_keep p0 hb hz
            have q1_1 := cell_keep p1 hb hz
            have z1 : w.heap.size < w1.heap.size := Nat.lt_of_lt_of_le hz hb.size
            clear p0 p1 hz hW
            clear hb
            have KK1 := Lib.hid hrk
            clear hrk hfk
            have hb : Below w1.heap.size w1 (w1.alloc (.cells (ints [1, 0]).toArray 3)) := (Below.refl _ _).alloc (Nat.le_refl _) _
            have lit2 := Lib.hid (Rd.lit w1 (ints [1, 0]) 3)
            have KK2 := Lib.hid (KK1.out.up hb)
            obtain ⟨w2, hw2⟩ : ∃ w2, w1.alloc (.cells (ints [1, 0]).toArray 3) = w2 := ⟨_, rfl⟩
            rw [hw2] at hb lit2 KK2
            have HW2 := Lib.hid hw2
            clear hw2
            have m0_2 := cell_keep m0_1 hb y_1
            have m1_2 := cell_keep m1_1 hb y_1
            have m2_2 := cell_keep m2_1 hb y_1
            have m3_2 := cell_keep m3_1 hb y_1
            have y_2 : W.heap.size < w2.heap.size := Nat.lt_of_lt_of_le y_1 hb.size
            clear m0_1 m1_1 m2_1 m3_1 y_1
            have B2 := Lib.hid (B1.out.trans (hb.mono B1.out.size))
            have RG2 := Lib.hid (RG1.out.up hb)
            have L_2 := Lib.hid (L_1.out.up hb)
            have man_2 := Lib.hid (man_1.out.up hb)
            have ducks_2 := Lib.hid (ducks_1.out.up hb)
            have q0_2 := cell_keep q0_1 hb z1
            have q1_2 := cell_keep q1_1 hb z1
            have z2 : w.heap.size < w2.heap.size := Nat.lt_of_lt_of_le z1 hb.size
            clear q0_1 q1_1 z1
            clear hb
            go_wp2_with fail
            rw [show w1.alloc (.cells #[.int .i64 1, .int .i64 0] 3) = w2 from HW2.out]
            refine (Same_t Ak _ ck _ [1, 0] 2 2 w2 rfl rfl KK2.out lit2.out (by decide)).mono ?_
            rintro e w3 ⟨rfl, hb⟩
            have m0_3 := cell_keep m0_2 hb y_2
            have m1_3 := cell_keep m1_2 hb y_2
            have m2_3 := cell_keep m2_2 hb y_2
            have m3_3 := cell_keep m3_2 hb y_2
            have y_3 : W.heap.size < w3.heap.size := Nat.lt_of_lt_of_le y_2 hb.size
            clear m0_2 m1_2 m2_2 m3_2 y_2
            have B3 := Lib.hid (B2.out.trans (hb.mono B2.out.size))
            have RG3 := Lib.hid (RG2.out.up hb)
            have L_3 := Lib.hid (L_2.out.up hb)
            have man_3 := Lib.hid (man_2.out.up hb)
            have ducks_3 := Lib.hid (ducks_2.out.up hb)
            have q0_3 := cell_keep q0_2 hb z2
            have q1_3 := cell_keep q1_2 hb z2
            have z3 : w.heap.size < w3.heap.size := Nat.lt_of_lt_of_le z2 hb.size
            clear q0_2 q1_2 z2
            clear hb
            go_wp2_with fail
            refine (HLg.out w3 RG3.out).mono ?_
            rintro e w4 ⟨rfl, hb⟩
            have m0_4 := cell_keep m0_3 hb y_3
            have m1_4 := cell_keep m1_3 hb y_3
            have m2_4 := cell_keep m2_3 hb y_3
            have m3_4 := cell_keep m3_3 hb y_3
            have y_4 : W.heap.size < w4.heap.size := Nat.lt_of_lt_of_le y_3 hb.size
            clear m0_3 m1_3 m2_3 m3_3 y_3
            have B4 := Lib.hid (B3.out.trans (hb.mono B3.out.size))
            have RG4 := Lib.hid (RG3.out.up hb)
            have L_4 := Lib.hid (L_3.out.up hb)
            have man_4 := Lib.hid (man_3.out.up hb)
            have ducks_4 := Lib.hid (ducks_3.out.up hb)
            have q0_4 := cell_keep q0_3 hb z3
            have q1_4 := cell_keep q1_3 hb z3
            have z4 : w.heap.size < w4.heap.size := Nat.lt_of_lt_of_le z3 hb.size
            clear q0_3 q1_3 z3
            clear hb
            go_wp2_with fail
            refine (C1.out w4 RG4.out L_4.out).mono ?_
            rintro e w5 ⟨A3, c3, rfl, hc3, hfA3, hrA3, hb⟩
            have m0_5 := cell_keep m0_4 hb y_4
            have m1_5 := cell_keep m1_4 hb y_4
            have m2_5 := cell_keep m2_4 hb y_4
            have m3_5 := cell_keep m3_4 hb y_4
            have y_5 : W.heap.size < w5.heap.size := Nat.lt_of_lt_of_le y_4 hb.size
            clear m0_4 m1_4 m2_4 m3_4 y_4
            have B5 := Lib.hid (B4.out.trans (hb.mono B4.out.size))
            have RG5 := Lib.hid (RG4.out.up hb)
            have L_5 := Lib.hid (L_4.out.up hb)
            have man_5 := Lib.hid (man_4.out.up hb)
            have ducks_5 := Lib.hid (ducks_4.out.up hb)
            have q0_5 := cell_keep q0_4 hb z4
            have q1_5 := cell_keep q1_4 hb z4
            have z5 : w.heap.size < w5.heap.size := Nat.lt_of_lt_of_le z4 hb.size
            clear q0_4 q1_4 z4
            clear hb
            have R_5 := Lib.hid hrA3
            clear hfA3 hrA3
            go_wp2_with fail
            refine (C2.out w5 RG5.out L_5.out).mono ?_
            rintro e w6 ⟨A4, c4, rfl, hc4, hfA4, hrA4, hb⟩
            have m0_6 := cell_keep m0_5 hb y_5
            have m1_6 := cell_keep m1_5 hb y_5
            have m2_6 := cell_keep m2_5 hb y_5
            have m3_6 := cell_keep m3_5 hb y_5
            have y_6 : W.heap.size < w6.heap.size := Nat.lt_of_lt_of_le y_5 hb.size
            clear m0_5 m1_5 m2_5 m3_5 y_5
            have B6 := Lib.hid (B5.out.trans (hb.mono B5.out.size))
            have RG6 := Lib.hid (RG5.out.up hb)
            have L_6 := Lib.hid (L_5.out.up hb)
            have man_6 := Lib.hid (man_5.out.up hb)
            have ducks_6 := Lib.hid (ducks_5.out.up hb)
            have R_6 := Lib.hid (R_5.out.up hb)
            have q0_6 := cell_keep q0_5 hb z5
            have q1_6 := cell_keep q1_5 hb z5
            have z6 : w.heap.size < w6.heap.size := Nat.lt_of_lt_of_le z5 hb.size
            clear q0_5 q1_5 z5
            clear hb
            have Wn_6 := Lib.hid hrA4
            clear hfA4 hrA4
            go_wp2_with fail
            refine (C3.out w6 RG6.out L_6.out).mono ?_
            rintro e w7 ⟨A5, c5, rfl, hc5, hfA5, hrA5, hb⟩
            have m0_7 := cell_keep m0_6 hb y_6
            have m1_7 := cell_keep m1_6 hb y_6
            have m2_7 := cell_keep m2_6 hb y_6
            have m3_7 := cell_keep m3_6 hb y_6
            have y_7 : W.heap.size < w7.heap.size := Nat.lt_of_lt_of_le y_6 hb.size
            clear m0_6 m1_6 m2_6 m3_6 y_6
            have B7 := Lib.hid (B6.out.trans (hb.mono B6.out.size))
            have RG7 := Lib.hid (RG6.out.up hb)
            have L_7 := Lib.hid (L_6.out.up hb)
            have man_7 := Lib.hid (man_6.out.up hb)
            have ducks_7 := Lib.hid (ducks_6.out.up hb)
            have R_7 := Lib.hid (R_6.out.up hb)
            have Wn_7 := Lib.hid (Wn_6.out.up hb)
            have q0_7 := cell_keep q0_6 hb z6
            have q1_7 := cell_keep q1_6 hb z6
            have z7 : w.heap.size < w7.heap.size := Nat.lt_of_lt_of_le z6 hb.size
            clear q0_6 q1_6 z6
            clear hb
            have Fr_7 := Lib.hid hrA5
            clear hfA5 hrA5
            have hle := HLe.out
            have x1 : ((R.length : Int) != (own.length : Int)) = false := by rw [bne_eq_false_iff_eq]; omega
            have x2 : (R.length != own.length) = false := by rw [bne_eq_false_iff_eq]; omega
            have x3 : IntKind.i64.wrap ((Wn.length : Int) + (Fr.length : Int)) = (Wn.length : Int) + (Fr.length : Int) := by rw [IntKind.wrap_i64]; omega
            have x4 : ((Wn.length : Int) + (Fr.length : Int) != (R.length : Int)) = false := by rw [bne_eq_false_iff_eq]; omega
            have x5 : (Wn.length + Fr.length != R.length) = false := by rw [bne_eq_false_iff_eq]; omega
            have hR16 : R.length ≤ 16 := by omega
            have hWn : Wn.length ≤ 16 := hle.2.2.2.1
            have hFr : Fr.length ≤ 16 := hle.2.2.2.2.1
            clear hle
            go_wp2_with fail
            refine (D1.out A3 c3 w7 RG7.out L_7.out R_7.out).mono ?_
            rintro e w8 ⟨rfl, hb⟩
            have m0_8 := cell_keep m0_7 hb y_7
            have m1_8 := cell_keep m1_7 hb y_7
            have m2_8 := cell_keep m2_7 hb y_7
            have m3_8 := cell_keep m3_7 hb y_7
            have y_8 : W.heap.size < w8.heap.size := Nat.lt_of_lt_of_le y_7 hb.size
            clear m0_7 m1_7 m2_7 m3_7 y_7
            have B8 := Lib.hid (B7.out.trans (hb.mono B7.out.size))
            have RG8 := Lib.hid (RG7.out.up hb)
            have L_8 := Lib.hid (L_7.out.up hb)
            have man_8 := Lib.hid (man_7.out.up hb)
            have ducks_8 := Lib.hid (ducks_7.out.up hb)
            have R_8 := Lib.hid (R_7.out.up hb)
            have Wn_8 := Lib.hid (Wn_7.out.up hb)
            have Fr_8 := Lib.hid (Fr_7.out.up hb)
            have q0_8 := cell_keep q0_7 hb z7
            have q1_8 := cell_keep q1_7 hb z7
            have z8 : w.heap.size < w8.heap.size := Nat.lt_of_lt_of_le z7 hb.size
            clear q0_7 q1_7 z7
            clear hb
            go_wp2_with fail
            refine (D2.out A5 c5 w8 RG8.out L_8.out Fr_8.out).mono ?_
            rintro e w9 ⟨rfl, hb⟩
            have m0_9 := cell_keep m0_8 hb y_8
            have m1_9 := cell_keep m1_8 hb y_8
            have m2_9 := cell_keep m2_8 hb y_8
            have m3_9 := cell_keep m3_8 hb y_8
            have y_9 : W.heap.size < w9.heap.size := Nat.lt_of_lt_of_le y_8 hb.size
            clear m0_8 m1_8 m2_8 m3_8 y_8
            have B9 := Lib.hid (B8.out.trans (hb.mono B8.out.size))
            have RG9 := Lib.hid (RG8.out.up hb)
            have L_9 := Lib.hid (L_8.out.up hb)
            have man_9 := Lib.hid (man_8.out.up hb)
            have ducks_9 := Lib.hid (ducks_8.out.up hb)
            have R_9 := Lib.hid (R_8.out.up hb)
            have Wn_9 := Lib.hid (Wn_8.out.up hb)
            have Fr_9 := Lib.hid (Fr_8.out.up hb)
            have q0_9 := cell_keep q0_8 hb z8
            have q1_9 := cell_keep q1_8 hb z8
            have z9 : w.heap.size < w9.heap.size := Nat.lt_of_lt_of_le z8 hb.size
            clear q0_8 q1_8 z8
            clear hb
            go_wp2_with fail
            refine (D3.out w9 RG9.out L_9.out).mono ?_
            rintro e w10 ⟨A6, c6, rfl, hc6, hfA6, hrA6, hb⟩
            have m0_10 := cell_keep m0_9 hb y_9
            have m1_10 := cell_keep m1_9 hb y_9
            have m2_10 := cell_keep m2_9 hb y_9
            have m3_10 := cell_keep m3_9 hb y_9
            have y_10 : W.heap.size < w10.heap.size := Nat.lt_of_lt_of_le y_9 hb.size
            clear m0_9 m1_9 m2_9 m3_9 y_9
            have B10 := Lib.hid (B9.out.trans (hb.mono B9.out.size))
            have RG10 := Lib.hid (RG9.out.up hb)
            have L_10 := Lib.hid (L_9.out.up hb)
            have man_10 := Lib.hid (man_9.out.up hb)
            have ducks_10 := Lib.hid (ducks_9.out.up hb)
            have R_10 := Lib.hid (R_9.out.up hb)
            have Wn_10 := Lib.hid (Wn_9.out.up hb)
            have Fr_10 := Lib.hid (Fr_9.out.up hb)
            have q0_10 := cell_keep q0_9 hb z9
            have q1_10 := cell_keep q1_9 hb z9
            have z10 : w.heap.size < w10.heap.size := Nat.lt_of_lt_of_le z9 hb.size
            clear q0_9 q1_9 z9
            clear hb
            have PL_10 := Lib.hid hrA6
            clear hfA6 hrA6
            go_wp2_with fail
            refine (D4.out w10 RG10.out L_10.out).mono ?_
            rintro e w11 ⟨A7, c7, rfl, hc7, hfA7, hrA7, hb⟩
            have m0_11 := cell_keep m0_10 hb y_10
            have m1_11 := cell_keep m1_10 hb y_10
            have m2_11 := cell_keep m2_10 hb y_10
            have m3_11 := cell_keep m3_10 hb y_10
            have y_11 : W.heap.size < w11.heap.size := Nat.lt_of_lt_of_le y_10 hb.size
            clear m0_10 m1_10 m2_10 m3_10 y_10
            have B11 := Lib.hid (B10.out.trans (hb.mono B10.out.size))
            have RG11 := Lib.hid (RG10.out.up hb)
            have L_11 := Lib.hid (L_10.out.up hb)
            have man_11 := Lib.hid (man_10.out.up hb)
            have ducks_11 := Lib.hid (ducks_10.out.up hb)
            have R_11 := Lib.hid (R_10.out.up hb)
            have Wn_11 := Lib.hid (Wn_10.out.up hb)
            have Fr_11 := Lib.hid (Fr_10.out.up hb)
            have PL_11 := Lib.hid (PL_10.out.up hb)
            have q0_11 := cell_keep q0_10 hb z10
            have q1_11 := cell_keep q1_10 hb z10
            have z11 : w.heap.size < w11.heap.size := Nat.lt_of_lt_of_le z10 hb.size
            clear q0_10 q1_10 z10
            clear hb
            have FL_11 := Lib.hid hrA7
            clear hfA7 hrA7
            go_wp2_with fail
            go_loopw [17] (fun i wr => ∃ k : Nat, k ≤ R.length ∧ i = .int .i64 k ∧ Below w11.heap.size w11 wr) (fun i _ => R.length - (intOf i).toNat)
            case atStart => exact ⟨0, by omega, rfl, Below.refl _ _⟩
            case round =>
              obtain ⟨i, hi, rfl, hbr⟩ := hrel
              have hb := hbr
              have BL := Lib.hid hbr
              clear hbr
              have m0_12 := cell_keep m0_11 hb y_11
              have m1_12 := cell_keep m1_11 hb y_11
              have m2_12 := cell_keep m2_11 hb y_11
              have m3_12 := cell_keep m3_11 hb y_11
              have y_12 : W.heap.size < wr.heap.size := Nat.lt_of_lt_of_le y_11 hb.size
              clear m0_11 m1_11 m2_11 m3_11 y_11
              have B12 := Lib.hid (B11.out.trans (hb.mono B11.out.size))
              have RG12 := Lib.hid (RG11.out.up hb)
              have L_12 := Lib.hid (L_11.out.up hb)
              have man_12 := Lib.hid (man_11.out.up hb)
              have ducks_12 := Lib.hid (ducks_11.out.up hb)
              have R_12 := Lib.hid (R_11.out.up hb)
              have Wn_12 := Lib.hid (Wn_11.out.up hb)
              have Fr_12 := Lib.hid (Fr_11.out.up hb)
              have PL_12 := Lib.hid (PL_11.out.up hb)
              have FL_12 := Lib.hid (FL_11.out.up hb)
              have q0_12 := cell_keep q0_11 hb z11
              have q1_12 := cell_keep q1_11 hb z11
              have z12 : w.heap.size < wr.heap.size := Nat.lt_of_lt_of_le z11 hb.size
              clear q0_11 q1_11 z11
              clear hb
              by_cases hlt : i < R.length
              · obtain ⟨bz, oz, r, hA3, hrz, crz⟩ := R_12.out.int i hlt
                have hw1 := HWin.out i r hrz.out
                have hf1 := HFre.out i r hrz.out
                have H4 := Lib.hid (fun w h => Has_any A4 c4 Wn (i : Int) w h (by omega))
                have H5 := Lib.hid (fun w h => Has_any A5 c5 Fr (i : Int) w h (by omega))
                rw [hw1] at H4
                rw [hf1] at H5
                subst hA3
                have i0 : (0 : Int) ≤ (i : Int) := by omega
                have i1 : (i : Int) < (R.length : Int) := by omega
                have gz := fun d os => cell_regrown crz d os
                clear hw1 hf1
                by_cases hr0 : 0 ≤ r
                · have e0 : decide (0 ≤ r) = true := by simpa using hr0
                  rw [e0] at H4 H5
                  obtain ⟨m, rfl⟩ := Int.eq_ofNat_of_zero_le hr0
                  have HH := Lib.hid (HHit.out i m hrz.out)
                  clear hr0
                  have g0 := fun d os => cell_regrown q0_12 d os
                  have g1 := fun d os => cell_regrown q1_12 d os
                  go_wp2_with fail
                  refine wp_region_quiet_below (by kernel_rfl) (by kernel_rfl) ?_
                  repeat (go_big_quiet_step (first | (with_reducible exact Calls.regrown_of (sbl (H4.out _ (Wn_12.out.up (below_regrown _ _ _))))) | (with_reducible exact Calls.regrown_of (sbl (H5.out _ (Fr_12.out.up (below_regrown _ _ _)))))))
                  refine wpQuiet_nil ?_
                  intro _ hw'
                  obtain ⟨⟨dq, osq⟩, hw''⟩ := hw'
                  subst hw''
                  have hb := below_regrown wr dq osq
                  obtain ⟨wv, hwv⟩ : ∃ w', Go.Sort.grow (redrawn wr dq) osq = w' := ⟨_, rfl⟩
                  rw [hwv] at hb ⊢
                  have BL2 := Lib.hid (BL.out.trans (hb.mono BL.out.size))
                  have crv := cell_keep crz hb (World.block_lt_of_cell? wr _ crz)
                  clear hwv g0 g1 gz crz
                  have m0_13 := cell_keep m0_12 hb y_12
                  have m1_13 := cell_keep m1_12 hb y_12
                  have m2_13 := cell_keep m2_12 hb y_12
                  have m3_13 := cell_keep m3_12 hb y_12
                  have y_13 : W.heap.size < wv.heap.size := Nat.lt_of_lt_of_le y_12 hb.size
                  clear m0_12 m1_12 m2_12 m3_12 y_12
                  have B13 := Lib.hid (B12.out.trans (hb.mono B12.out.size))
                  have RG13 := Lib.hid (RG12.out.up hb)
                  have L_13 := Lib.hid (L_12.out.up hb)
                  have man_13 := Lib.hid (man_12.out.up hb)
                  have ducks_13 := Lib.hid (ducks_12.out.up hb)
                  have R_13 := Lib.hid (R_12.out.up hb)
                  have Wn_13 := Lib.hid (Wn_12.out.up hb)
                  have Fr_13 := Lib.hid (Fr_12.out.up hb)
                  have PL_13 := Lib.hid (PL_12.out.up hb)
                  have FL_13 := Lib.hid (FL_12.out.up hb)
                  have q0_13 := cell_keep q0_12 hb z12
                  have q1_13 := cell_keep q1_12 hb z12
                  have z13 : w.heap.size < wv.heap.size := Nat.lt_of_lt_of_le z12 hb.size
                  clear q0_12 q1_12 z12
                  clear hb
                  have HK := Lib.hid (fun (w5 : World) (h : Below wv.heap.size wv w5) => And.intro (cell_keep q0_13 h z13) (And.intro (cell_keep q1_13 h z13) (And.intro (cell_keep m1_13 h y_13) (cell_keep crv h (World.block_lt_of_cell? wv _ crv)))))
                  have HS0 := Lib.hid (HK.out wv.drew ((Below.refl _ wv).drew))
                  have BD := Lib.hid ((Below.refl wv.heap.size wv).drew)
                  have RGD := Lib.hid (RG13.out.up BD.out)
                  have hle2 := HPL.out PL ducks i m
                  have P1i := Lib.hid (fun w h q r => P1.out A6 c6 i m w h q r)
                  obtain ⟨X, hX⟩ : ∃ X, plyL G PL ducks i m = X := ⟨_, rfl⟩
                  obtain ⟨V, hVV⟩ : ∃ V, plyE G PL ducks i m = V := ⟨_, rfl⟩
                  rw [hX] at P1i HH hle2
                  rw [hVV] at P1i HH
                  clear hX hVV
                  go_wp2_with fail
                  go_region_held3 (fun w' => w'.cell? ⟨w.heap.size, 0, none⟩ = some (.slice A0 own.length c0) ∧ w'.cell? ⟨w.heap.size, 1, none⟩ = some (.slice A1 rs.length c1) ∧ w'.cell? ⟨W.heap.size, 1, none⟩ = some (.slice DA ducks.length dc) ∧ w'.cell? ⟨bz, oz + i, none⟩ = some (.int .i64 (m : Int)))
                    (first | exact HS0.out | exact SK.out)
                    ((first | (go_at_call 14; refine (P1i.out _ RGD.out (show Rd wv.drew wv.drew.heap.size A6 (ints PL) from PL_13.out) (show Rd wv.drew wv.drew.heap.size DA (ints ducks) from ducks_13.out)).mono ?_; rintro e w8 ⟨A8, c8, rfl, hc8, hf8, hr8, hb8⟩; have SK := Lib.hid (HK.out w8 (BD.out.trans hb8)); have BL3 := Lib.hid (BL2.out.trans ((BD.out.trans hb8).mono BL2.out.size)); have R8 := Lib.hid hr8; have L8 := Lib.hid (L_13.out.up (BD.out.trans hb8)); clear hb8 hf8 hr8)))
                  by_cases hV0 : V = 0
                  · have v1 : (V == 0) = true := by rw [hV0]; rfl
                    have HM := Lib.hid (met_any A8 A c8 c X L w8 R8.out L8.out (by omega) (by omega))
                    rw [HH.out hV0] at HM
                    clear hV0
                    go_wp2_with fail
                    refine HM.out.mono ?_
                    rintro e w10 ⟨rfl, hb⟩
                    have BL4 := Lib.hid (BL3.out.trans (hb.mono BL3.out.size))
                    clear hb
                    go_wp2_with fail
                    go_roundw
                    case rel => exact ⟨i + 1, by omega, by go_num, BL4.out⟩
                    case measure => simp [intOf]; omega
                  · have v1 : (V == 0) = false := by simpa using hV0
                    clear hV0
                    go_wp2_with fail
                    go_roundw
                    case rel => exact ⟨i + 1, by omega, by go_num, BL3.out⟩
                    case measure => simp [intOf]; omega
                · have e0 : decide (0 ≤ r) = false := by simpa using hr0
                  rw [e0] at H4 H5
                  have HH := Lib.hid (HMiss.out i r hrz.out (by omega))
                  clear hr0
                  have g0 := fun d os => cell_regrown q0_12 d os
                  have g1 := fun d os => cell_regrown q1_12 d os
                  go_wp2_with fail
                  refine wp_region_quiet_below (by kernel_rfl) (by kernel_rfl) ?_
                  repeat (go_big_quiet_step (first | (with_reducible exact Calls.regrown_of (sbl (H4.out _ (Wn_12.out.up (below_regrown _ _ _))))) | (with_reducible exact Calls.regrown_of (sbl (H5.out _ (Fr_12.out.up (below_regrown _ _ _)))))))
                  refine wpQuiet_nil ?_
                  intro _ hw'
                  obtain ⟨⟨dq, osq⟩, hw''⟩ := hw'
                  subst hw''
                  have hb := below_regrown wr dq osq
                  obtain ⟨wv, hwv⟩ : ∃ w', Go.Sort.grow (redrawn wr dq) osq = w' := ⟨_, rfl⟩
                  rw [hwv] at hb ⊢
                  have BL2 := Lib.hid (BL.out.trans (hb.mono BL.out.size))
                  have crv := cell_keep crz hb (World.block_lt_of_cell? wr _ crz)
                  clear hwv g0 g1 gz crz
                  have m0_13 := cell_keep m0_12 hb y_12
                  have m1_13 := cell_keep m1_12 hb y_12
                  have m2_13 := cell_keep m2_12 hb y_12
                  have m3_13 := cell_keep m3_12 hb y_12
                  have y_13 : W.heap.size < wv.heap.size := Nat.lt_of_lt_of_le y_12 hb.size
                  clear m0_12 m1_12 m2_12 m3_12 y_12
                  have B13 := Lib.hid (B12.out.trans (hb.mono B12.out.size))
                  have RG13 := Lib.hid (RG12.out.up hb)
                  have L_13 := Lib.hid (L_12.out.up hb)
                  have man_13 := Lib.hid (man_12.out.up hb)
                  have ducks_13 := Lib.hid (ducks_12.out.up hb)
                  have R_13 := Lib.hid (R_12.out.up hb)
                  have Wn_13 := Lib.hid (Wn_12.out.up hb)
                  have Fr_13 := Lib.hid (Fr_12.out.up hb)
                  have PL_13 := Lib.hid (PL_12.out.up hb)
                  have FL_13 := Lib.hid (FL_12.out.up hb)
                  have q0_13 := cell_keep q0_12 hb z12
                  have q1_13 := cell_keep q1_12 hb z12
                  have z13 : w.heap.size < wv.heap.size := Nat.lt_of_lt_of_le z12 hb.size
                  clear q0_12 q1_12 z12
                  clear hb
                  have hle2 := HPL.out man FL i 40
                  have P2i := Lib.hid (fun w h q r => P2.out A7 c7 i w h q r)
                  obtain ⟨X, hX⟩ : ∃ X, plyL G man FL i 40 = X := ⟨_, rfl⟩
                  obtain ⟨V, hVV⟩ : ∃ V, plyE G man FL i 40 = V := ⟨_, rfl⟩
                  rw [hX] at P2i HH hle2
                  rw [hVV] at P2i
                  clear hX hVV
                  go_wp2_with fail
                  refine (P2i.out wv RG13.out man_13.out FL_13.out).mono ?_
                  rintro e w8 ⟨A8, c8, rfl, hc8, hf8, hr8, hb⟩
                  have BL3 := Lib.hid (BL2.out.trans (hb.mono BL2.out.size))
                  have R8 := Lib.hid hr8
                  have L8 := Lib.hid (L_13.out.up hb)
                  clear hb hr8 hf8
                  by_cases hV0 : V = 0
                  · have v1 : (V == 0) = true := by rw [hV0]; rfl
                    have HM := Lib.hid (met_any A8 A c8 c X L w8 R8.out L8.out (by omega) (by omega))
                    rw [HH.out] at HM
                    clear hV0
                    go_wp2_with fail
                    refine HM.out.mono ?_
                    rintro e w10 ⟨rfl, hb⟩
                    have BL4 := Lib.hid (BL3.out.trans (hb.mono BL3.out.size))
                    clear hb
                    go_wp2_with fail
                    go_roundw
                    case rel => exact ⟨i + 1, by omega, by go_num, BL4.out⟩
                    case measure => simp [intOf]; omega
                  · have v1 : (V == 0) = false := by simpa using hV0
                    clear hV0
                    go_wp2_with fail
                    go_roundw
                    case rel => exact ⟨i + 1, by omega, by go_num, BL3.out⟩
                    case measure => simp [intOf]; omega
              · have hks : i = R.length := by omega
                have b3 : decide ((i : Int) < (R.length : Int)) = false := by rw [decide_eq_false_iff_not]; omega
                have b4 : decide (i < R.length) = false := by rw [decide_eq_false_iff_not]; exact hlt
                clear hks hlt
                go_wp2_with fail
                refine (D5.out wr RG12.out L_12.out).mono ?_
                rintro e w13 ⟨A9, c9, rfl, hc9, hfA9, hrA9, hb⟩
                have m0_13 := cell_keep m0_12 hb y_12
                have m1_13 := cell_keep m1_12 hb y_12
                have m2_13 := cell_keep m2_12 hb y_12
                have m3_13 := cell_keep m3_12 hb y_12
                have y_13 : W.heap.size < w13.heap.size := Nat.lt_of_lt_of_le y_12 hb.size
                clear m0_12 m1_12 m2_12 m3_12 y_12
                have B13 := Lib.hid (B12.out.trans (hb.mono B12.out.size))
                have RG13 := Lib.hid (RG12.out.up hb)
                have L_13 := Lib.hid (L_12.out.up hb)
                have man_13 := Lib.hid (man_12.out.up hb)
                have ducks_13 := Lib.hid (ducks_12.out.up hb)
                have R_13 := Lib.hid (R_12.out.up hb)
                have Wn_13 := Lib.hid (Wn_12.out.up hb)
                have Fr_13 := Lib.hid (Fr_12.out.up hb)
                have PL_13 := Lib.hid (PL_12.out.up hb)
                have FL_13 := Lib.hid (FL_12.out.up hb)
                have q0_13 := cell_keep q0_12 hb z12
                have q1_13 := cell_keep q1_12 hb z12
                have z13 : w.heap.size < w13.heap.size := Nat.lt_of_lt_of_le z12 hb.size
                clear q0_12 q1_12 z12
                clear hb
                have AG_13 := Lib.hid hrA9
                clear hfA9 hrA9
                go_wp2_with fail
                refine (D6.out A4 c4 w13 RG13.out Wn_13.out).mono ?_
                rintro e w14 ⟨A10, c10, rfl, hc10, hfA10, hrA10, hb⟩
                have m0_14 := cell_keep m0_13 hb y_13
                have m1_14 := cell_keep m1_13 hb y_13
                have m2_14 := cell_keep m2_13 hb y_13
                have m3_14 := cell_keep m3_13 hb y_13
                have y_14 : W.heap.size < w14.heap.size := Nat.lt_of_lt_of_le y_13 hb.size
                clear m0_13 m1_13 m2_13 m3_13 y_13
                have B14 := Lib.hid (B13.out.trans (hb.mono B13.out.size))
                have RG14 := Lib.hid (RG13.out.up hb)
                have L_14 := Lib.hid (L_13.out.up hb)
                have man_14 := Lib.hid (man_13.out.up hb)
                have ducks_14 := Lib.hid (ducks_13.out.up hb)
                have R_14 := Lib.hid (R_13.out.up hb)
                have Wn_14 := Lib.hid (Wn_13.out.up hb)
                have Fr_14 := Lib.hid (Fr_13.out.up hb)
                have PL_14 := Lib.hid (PL_13.out.up hb)
                have FL_14 := Lib.hid (FL_13.out.up hb)
                have AG_14 := Lib.hid (AG_13.out.up hb)
                have q0_14 := cell_keep q0_13 hb z13
                have q1_14 := cell_keep q1_13 hb z13
                have z14 : w.heap.size < w14.heap.size := Nat.lt_of_lt_of_le z13 hb.size
                clear q0_13 q1_13 z13
                clear hb
                have KP_14 := Lib.hid hrA10
                clear hfA10 hrA10
                have hle3 := HLe.out
                have hAG : AG.length ≤ 16 := hle3.2.2.2.2.2.1
                have hKP : KP.length ≤ 16 := hle3.2.2.2.2.2.2.1
                clear hle3
                go_wp2_with fail
                go_loopw [24] (fun i wr2 => ∃ k : Nat, k ≤ AG.length ∧ i = .int .i64 k ∧ wr2 = w14) (fun i _ => AG.length - (intOf i).toNat)
                case atStart => exact ⟨0, by omega, rfl, rfl⟩
                case round =>
                  obtain ⟨q, hq, rfl, hww⟩ := hrel
                  rw [hww]
                  clear hww
                  by_cases hlt : q < AG.length
                  · obtain ⟨b, o, d, rfl, hd, hc⟩ := AG_14.out.int q hlt
                    have H4 := Lib.hid (Has_any A4 c4 Wn d _ Wn_14.out (by omega))
                    have H5 := Lib.hid (Has_any A10 c10 KP d _ KP_14.out (by omega))
                    rw [HAW.out q d hd.out] at H4
                    rw [HAK.out q d hd.out] at H5
                    have q0 : (q : Int) < (AG.length : Int) := by omega
                    go_wp2_with fail
                    refine (H4.out).mono ?_
                    rintro e w' ⟨rfl, rfl⟩
                    go_wp2_with fail
                    refine (H5.out).mono ?_
                    rintro e w' ⟨rfl, rfl⟩
                    go_wp2_with fail
                    go_roundw
                    case rel => exact ⟨q + 1, by omega, by go_num, by first | rfl | trivial⟩
                    case measure => simp [intOf]; omega
                  · have hks : q = AG.length := by omega
                    have b5 : decide ((q : Int) < (AG.length : Int)) = false := by rw [decide_eq_false_iff_not]; omega
                    have b6 : decide (q < AG.length) = false := by rw [decide_eq_false_iff_not]; exact hlt
                    clear hks hlt
                    go_wp2_with fail
                    go_loopw [25] (fun i wr3 => ∃ n : Nat, n ≤ R.length + 1 ∧ i = .int .i64 n ∧ Below w14.heap.size w14 wr3) (fun i _ => R.length + 1 - (intOf i).toNat)
                    case atStart => exact ⟨0, by omega, rfl, Below.refl _ _⟩
                    case round =>
                      obtain ⟨n, hn, rfl, hbr⟩ := hrel
                      have hb := hbr
                      have BN := Lib.hid hbr
                      clear hbr
                      have m0_15 := cell_keep m0_14 hb y_14
                      have m1_15 := cell_keep m1_14 hb y_14
                      have m2_15 := cell_keep m2_14 hb y_14
                      have m3_15 := cell_keep m3_14 hb y_14
                      have y_15 : W.heap.size < wr.heap.size := Nat.lt_of_lt_of_le y_14 hb.size
                      clear m0_14 m1_14 m2_14 m3_14 y_14
                      have B15 := Lib.hid (B14.out.trans (hb.mono B14.out.size))
                      have RG15 := Lib.hid (RG14.out.up hb)
                      have L_15 := Lib.hid (L_14.out.up hb)
                      have man_15 := Lib.hid (man_14.out.up hb)
                      have ducks_15 := Lib.hid (ducks_14.out.up hb)
                      have R_15 := Lib.hid (R_14.out.up hb)
                      have Wn_15 := Lib.hid (Wn_14.out.up hb)
                      have Fr_15 := Lib.hid (Fr_14.out.up hb)
                      have PL_15 := Lib.hid (PL_14.out.up hb)
                      have FL_15 := Lib.hid (FL_14.out.up hb)
                      have AG_15 := Lib.hid (AG_14.out.up hb)
                      have KP_15 := Lib.hid (KP_14.out.up hb)
                      have q0_15 := cell_keep q0_14 hb z14
                      have q1_15 := cell_keep q1_14 hb z14
                      have z15 : w.heap.size < wr.heap.size := Nat.lt_of_lt_of_le z14 hb.size
                      clear q0_14 q1_14 z14
                      clear hb
                      by_cases hltn : n ≤ R.length
                      · have n1 : decide ((n : Int) ≤ (R.length : Int)) = true := by rw [decide_eq_true_eq]; omega
                        have n2 : decide (n ≤ R.length) = true := by rw [decide_eq_true_eq]; exact hltn
                        have hle4 : (WIT n).length ≤ 16 := HLe.out.2.2.2.2.2.2.2 n
                        have D7n := Lib.hid (fun w h q => D7.out n (by omega) w h q)
                        have HWn := Lib.hid (fun (i : Nat) (r : Int) h => HWit.out i n r (by omega) h)
                        generalize WIT n = XN at *
                        go_wp2_with fail
                        refine (D7n.out wr RG15.out L_15.out).mono ?_
                        rintro e wn ⟨A11, c11, rfl, hc11, hf11, hr11, hb⟩
                        have BN2 := Lib.hid (BN.out.trans (hb.mono BN.out.size))
                        have m0_16 := cell_keep m0_15 hb y_15
                        have m1_16 := cell_keep m1_15 hb y_15
                        have m2_16 := cell_keep m2_15 hb y_15
                        have m3_16 := cell_keep m3_15 hb y_15
                        have y_16 : W.heap.size < wn.heap.size := Nat.lt_of_lt_of_le y_15 hb.size
                        clear m0_15 m1_15 m2_15 m3_15 y_15
                        have B16 := Lib.hid (B15.out.trans (hb.mono B15.out.size))
                        have RG16 := Lib.hid (RG15.out.up hb)
                        have L_16 := Lib.hid (L_15.out.up hb)
                        have man_16 := Lib.hid (man_15.out.up hb)
                        have ducks_16 := Lib.hid (ducks_15.out.up hb)
                        have R_16 := Lib.hid (R_15.out.up hb)
                        have Wn_16 := Lib.hid (Wn_15.out.up hb)
                        have Fr_16 := Lib.hid (Fr_15.out.up hb)
                        have PL_16 := Lib.hid (PL_15.out.up hb)
                        have FL_16 := Lib.hid (FL_15.out.up hb)
                        have AG_16 := Lib.hid (AG_15.out.up hb)
                        have KP_16 := Lib.hid (KP_15.out.up hb)
                        have q0_16 := cell_keep q0_15 hb z15
                        have q1_16 := cell_keep q1_15 hb z15
                        have z16 : w.heap.size < wn.heap.size := Nat.lt_of_lt_of_le z15 hb.size
                        clear q0_15 q1_15 z15
                        clear hb
                        have XN_ := Lib.hid hr11
                        clear hr11 hf11
                        go_wp2_with fail
                        go_loopw [28] (fun i wr4 => ∃ (q m : Nat), q ≤ R.length ∧ i = .int .i64 q ∧ wr4 = wn.drewN m) (fun i _ => R.length - (intOf i).toNat)
                        case atStart => exact ⟨0, 0, by omega, rfl, rfl⟩
                        case round =>
                          obtain ⟨q, m, hq, rfl, rfl⟩ := hrel
                          by_cases hlt : q < R.length
                          · obtain ⟨bz, oz, r, hA3, hrz, crz⟩ := R_16.out.int q hlt
                            have hw1 := HWn.out q r hrz.out
                            have H4 := Lib.hid (fun w h => Has_any A11 c11 XN (q : Int) w h (by omega))
                            rw [hw1] at H4
                            subst hA3
                            have i0 : (0 : Int) ≤ (q : Int) := by omega
                            have i1 : (q : Int) < (R.length : Int) := by omega
                            have hxr := XN_.out
                            clear hw1
                            by_cases hr0 : 0 ≤ r
                            · have e0 : decide (0 ≤ r) = true := by simpa using hr0
                              obtain ⟨bb, hbb⟩ : ∃ bb, decide (r ≤ (n : Int)) = bb := ⟨_, rfl⟩
                              rw [e0, hbb, Bool.true_and] at H4
                              clear hr0
                              cases bb
                              · go_wp2_with fail
                                go_quiet ((go_at_call 13; exact qs (H4.out _ hxr)))
                                go_wp2_with fail
                                go_roundw
                                case rel => exact ⟨q + 1, _, by omega, by go_num, rfl⟩
                                case measure => simp [intOf]; omega
                              · go_wp2_with fail
                                go_quiet ((go_at_call 13; exact qs (H4.out _ hxr)))
                                go_wp2_with fail
                                go_roundw
                                case rel => exact ⟨q + 1, _, by omega, by go_num, rfl⟩
                                case measure => simp [intOf]; omega
                            · have e0 : decide (0 ≤ r) = false := by simpa using hr0
                              rw [e0, Bool.false_and] at H4
                              clear hr0
                              go_wp2_with fail
                              go_quiet ((go_at_call 13; exact qs (H4.out _ hxr)))
                              go_wp2_with fail
                              go_roundw
                              case rel => exact ⟨q + 1, _, by omega, by go_num, rfl⟩
                              case measure => simp [intOf]; omega
                          · have hks : q = R.length := by omega
                            have b7 : decide ((q : Int) < (R.length : Int)) = false := by rw [decide_eq_false_iff_not]; omega
                            have b8 : decide (q < R.length) = false := by rw [decide_eq_false_iff_not]; exact hlt
                            clear hks hlt
                            go_wp2_with fail
                            go_roundw
                            case rel => exact ⟨n + 1, by omega, by go_num, bdN BN2.out m⟩
                            case measure => simp [intOf]; omega
                      · have n1 : decide ((n : Int) ≤ (R.length : Int)) = false := by rw [decide_eq_false_iff_not]; omega
                        have n2 : decide (n ≤ R.length) = false := by rw [decide_eq_false_iff_not]; exact hltn
                        clear hltn
                        go_wp2_with fail
                        go_ret
                        exact ⟨rfl, B14.out.trans (BN.out.mono B14.out.size)⟩
          · have e1 : ranL g.G L = [] := if_neg hV
            have e2 : winL g.G L = [] := if_neg hV
            have e3 : freL g.G L = [] := if_neg hV
            rw [e1] at C1
            rw [e2] at C2
            rw [e3] at C3
            obtain ⟨V, hVe⟩ : ∃ V, askE g.G L = V := ⟨_, rfl⟩
            rw [hVe] at hV C1 C2 C3
            have hb1 : (V == 0) = false := by simpa using hV
            have hb2 : (V != 0) = true := by simpa using hV
            have hb3 : (V != V) = false := by simp
            clear hf hbl n100 r100 rr100 hV hVe e1 e2 e3
            unfold Gv.v at HLg C1 C2 C3 ⊢
            obtain ⟨A0, c0, own, A1, c1, rs⟩ := g
            simp only at *
            go_enter Try.func3, Try.ntmps3
            go_wp2_with fail
            refine HR.out.mono ?_
            rintro e w1 ⟨Ak, ck, rfl, hck, hfk, hrk, hb⟩
            clear hW5
            have m0_1 := cell_keep m0_0 hb y_0
            have m1_1 := cell_keep m1_0 hb y_0
            have m2_1 := cell_keep m2_0 hb y_0
            have m3_1 := cell_keep m3_0 hb y_0
            have y_1 : W.heap.size < w1.heap.size := Nat.lt_of_lt_of_le y_0 hb.size
            clear m0_0 m1_0 m2_0 m3_0 y_0 hW0
            have B1 := Lib.hid (B0.out.trans (hb.mono B0.out.size))
            have RG1 := Lib.hid (RG0.out.up hb)
            have L_1 := Lib.hid (L_0.out.up hb)
            have man_1 := Lib.hid (man_0.out.up hb)
            have ducks_1 := Lib.hid (ducks_0.out.up hb)
            have q0_1 := cell_keep p0 hb hz
            have q1_1 := cell_keep p1 hb hz
            have z1 : w.heap.size < w1.heap.size := Nat.lt_of_lt_of_le hz hb.size
            clear p0 p1 hz hW
            clear hb
            have KK1 := Lib.hid hrk
            clear hrk hfk
            have hb : Below w1.heap.size w1 (w1.alloc (.cells (ints [1, 0]).toArray 3)) := (Below.refl _ _).alloc (Nat.le_refl _) _
            have lit2 := Lib.hid (Rd.lit w1 (ints [1, 0]) 3)
            have KK2 := Lib.hid (KK1.out.up hb)
            obtain ⟨w2, hw2⟩ : ∃ w2, w1.alloc (.cells (ints [1, 0]).toArray 3) = w2 := ⟨_, rfl⟩
            rw [hw2] at hb lit2 KK2
            have HW2 := Lib.hid hw2
            clear hw2
            have m0_2 := cell_keep m0_1 hb y_1
            have m1_2 := cell_keep m1_1 hb y_1
            have m2_2 := cell_keep m2_1 hb y_1
            have m3_2 := cell_keep m3_1 hb y_1
            have y_2 : W.heap.size < w2.heap.size := Nat.lt_of_lt_of_le y_1 hb.size
            clear m0_1 m1_1 m2_1 m3_1 y_1
            have B2 := Lib.hid (B1.out.trans (hb.mono B1.out.size))
            have RG2 := Lib.hid (RG1.out.up hb)
            have L_2 := Lib.hid (L_1.out.up hb)
            have man_2 := Lib.hid (man_1.out.up hb)
            have ducks_2 := Lib.hid (ducks_1.out.up hb)
            have q0_2 := cell_keep q0_1 hb z1
            have q1_2 := cell_keep q1_1 hb z1
            have z2 : w.heap.size < w2.heap.size := Nat.lt_of_lt_of_le z1 hb.size
            clear q0_1 q1_1 z1
            clear hb
            go_wp2_with fail
            rw [show w1.alloc (.cells #[.int .i64 1, .int .i64 0] 3) = w2 from HW2.out]
            refine (Same_t Ak _ ck _ [1, 0] 2 2 w2 rfl rfl KK2.out lit2.out (by decide)).mono ?_
            rintro e w3 ⟨rfl, hb⟩
            have m0_3 := cell_keep m0_2 hb y_2
            have m1_3 := cell_keep m1_2 hb y_2
            have m2_3 := cell_keep m2_2 hb y_2
            have m3_3 := cell_keep m3_2 hb y_2
            have y_3 : W.heap.size < w3.heap.size := Nat.lt_of_lt_of_le y_2 hb.size
            clear m0_2 m1_2 m2_2 m3_2 y_2
            have B3 := Lib.hid (B2.out.trans (hb.mono B2.out.size))
            have RG3 := Lib.hid (RG2.out.up hb)
            have L_3 := Lib.hid (L_2.out.up hb)
            have man_3 := Lib.hid (man_2.out.up hb)
            have ducks_3 := Lib.hid (ducks_2.out.up hb)
            have q0_3 := cell_keep q0_2 hb z2
            have q1_3 := cell_keep q1_2 hb z2
            have z3 : w.heap.size < w3.heap.size := Nat.lt_of_lt_of_le z2 hb.size
            clear q0_2 q1_2 z2
            clear hb
            go_wp2_with fail
            refine (HLg.out w3 RG3.out).mono ?_
            rintro e w4 ⟨rfl, hb⟩
            have m0_4 := cell_keep m0_3 hb y_3
            have m1_4 := cell_keep m1_3 hb y_3
            have m2_4 := cell_keep m2_3 hb y_3
            have m3_4 := cell_keep m3_3 hb y_3
            have y_4 : W.heap.size < w4.heap.size := Nat.lt_of_lt_of_le y_3 hb.size
            clear m0_3 m1_3 m2_3 m3_3 y_3
            have B4 := Lib.hid (B3.out.trans (hb.mono B3.out.size))
            have RG4 := Lib.hid (RG3.out.up hb)
            have L_4 := Lib.hid (L_3.out.up hb)
            have man_4 := Lib.hid (man_3.out.up hb)
            have ducks_4 := Lib.hid (ducks_3.out.up hb)
            have q0_4 := cell_keep q0_3 hb z3
            have q1_4 := cell_keep q1_3 hb z3
            have z4 : w.heap.size < w4.heap.size := Nat.lt_of_lt_of_le z3 hb.size
            clear q0_3 q1_3 z3
            clear hb
            go_wp2_with fail
            refine (C1.out w4 RG4.out L_4.out).mono ?_
            rintro e w5 ⟨A3, c3, rfl, hc3, hfA3, hrA3, hb⟩
            have m0_5 := cell_keep m0_4 hb y_4
            have m1_5 := cell_keep m1_4 hb y_4
            have m2_5 := cell_keep m2_4 hb y_4
            have m3_5 := cell_keep m3_4 hb y_4
            have y_5 : W.heap.size < w5.heap.size := Nat.lt_of_lt_of_le y_4 hb.size
            clear m0_4 m1_4 m2_4 m3_4 y_4
            have B5 := Lib.hid (B4.out.trans (hb.mono B4.out.size))
            have RG5 := Lib.hid (RG4.out.up hb)
            have L_5 := Lib.hid (L_4.out.up hb)
            have man_5 := Lib.hid (man_4.out.up hb)
            have ducks_5 := Lib.hid (ducks_4.out.up hb)
            have q0_5 := cell_keep q0_4 hb z4
            have q1_5 := cell_keep q1_4 hb z4
            have z5 : w.heap.size < w5.heap.size := Nat.lt_of_lt_of_le z4 hb.size
            clear q0_4 q1_4 z4
            clear hb
            have R_5 := Lib.hid hrA3
            clear hfA3 hrA3
            go_wp2_with fail
            refine (C2.out w5 RG5.out L_5.out).mono ?_
            rintro e w6 ⟨A4, c4, rfl, hc4, hfA4, hrA4, hb⟩
            have m0_6 := cell_keep m0_5 hb y_5
            have m1_6 := cell_keep m1_5 hb y_5
            have m2_6 := cell_keep m2_5 hb y_5
            have m3_6 := cell_keep m3_5 hb y_5
            have y_6 : W.heap.size < w6.heap.size := Nat.lt_of_lt_of_le y_5 hb.size
            clear m0_5 m1_5 m2_5 m3_5 y_5
            have B6 := Lib.hid (B5.out.trans (hb.mono B5.out.size))
            have RG6 := Lib.hid (RG5.out.up hb)
            have L_6 := Lib.hid (L_5.out.up hb)
            have man_6 := Lib.hid (man_5.out.up hb)
            have ducks_6 := Lib.hid (ducks_5.out.up hb)
            have R_6 := Lib.hid (R_5.out.up hb)
            have q0_6 := cell_keep q0_5 hb z5
            have q1_6 := cell_keep q1_5 hb z5
            have z6 : w.heap.size < w6.heap.size := Nat.lt_of_lt_of_le z5 hb.size
            clear q0_5 q1_5 z5
            clear hb
            have Wn_6 := Lib.hid hrA4
            clear hfA4 hrA4
            go_wp2_with fail
            refine (C3.out w6 RG6.out L_6.out).mono ?_
            rintro e w7 ⟨A5, c5, rfl, hc5, hfA5, hrA5, hb⟩
            have m0_7 := cell_keep m0_6 hb y_6
            have m1_7 := cell_keep m1_6 hb y_6
            have m2_7 := cell_keep m2_6 hb y_6
            have m3_7 := cell_keep m3_6 hb y_6
            have y_7 : W.heap.size < w7.heap.size := Nat.lt_of_lt_of_le y_6 hb.size
            clear m0_6 m1_6 m2_6 m3_6 y_6
            have B7 := Lib.hid (B6.out.trans (hb.mono B6.out.size))
            have RG7 := Lib.hid (RG6.out.up hb)
            have L_7 := Lib.hid (L_6.out.up hb)
            have man_7 := Lib.hid (man_6.out.up hb)
            have ducks_7 := Lib.hid (ducks_6.out.up hb)
            have R_7 := Lib.hid (R_6.out.up hb)
            have Wn_7 := Lib.hid (Wn_6.out.up hb)
            have q0_7 := cell_keep q0_6 hb z6
            have q1_7 := cell_keep q1_6 hb z6
            have z7 : w.heap.size < w7.heap.size := Nat.lt_of_lt_of_le z6 hb.size
            clear q0_6 q1_6 z6
            clear hb
            have Fr_7 := Lib.hid hrA5
            clear hfA5 hrA5
            go_wp2_with fail
            go_ret
            exact ⟨rfl, B7.out⟩
  · rw [hbl] at HLg
    clear hf hbl
    unfold Gv.v at HLg ⊢
    obtain ⟨A0, c0, own, A1, c1, rs⟩ := g
    simp only at *
    go_enter Try.func3, Try.ntmps3
    go_wp2_with fail
    refine HR.out.mono ?_
    rintro e w1 ⟨Ak, ck, rfl, hck, hfk, hrk, hb⟩
    clear hW5
    have m0_1 := cell_keep m0_0 hb y_0
    have m1_1 := cell_keep m1_0 hb y_0
    have m2_1 := cell_keep m2_0 hb y_0
    have m3_1 := cell_keep m3_0 hb y_0
    have y_1 : W.heap.size < w1.heap.size := Nat.lt_of_lt_of_le y_0 hb.size
    clear m0_0 m1_0 m2_0 m3_0 y_0 hW0
    have B1 := Lib.hid (B0.out.trans (hb.mono B0.out.size))
    have RG1 := Lib.hid (RG0.out.up hb)
    have L_1 := Lib.hid (L_0.out.up hb)
    have man_1 := Lib.hid (man_0.out.up hb)
    have ducks_1 := Lib.hid (ducks_0.out.up hb)
    have q0_1 := cell_keep p0 hb hz
    have q1_1 := cell_keep p1 hb hz
    have z1 : w.heap.size < w1.heap.size := Nat.lt_of_lt_of_le hz hb.size
    clear p0 p1 hz hW
    clear hb
    have KK1 := Lib.hid hrk
    clear hrk hfk
    have hb : Below w1.heap.size w1 (w1.alloc (.cells (ints [1, 0]).toArray 3)) := (Below.refl _ _).alloc (Nat.le_refl _) _
    have lit2 := Lib.hid (Rd.lit w1 (ints [1, 0]) 3)
    have KK2 := Lib.hid (KK1.out.up hb)
    obtain ⟨w2, hw2⟩ : ∃ w2, w1.alloc (.cells (ints [1, 0]).toArray 3) = w2 := ⟨_, rfl⟩
    rw [hw2] at hb lit2 KK2
    have HW2 := Lib.hid hw2
    clear hw2
    have m0_2 := cell_keep m0_1 hb y_1
    have m1_2 := cell_keep m1_1 hb y_1
    have m2_2 := cell_keep m2_1 hb y_1
    have m3_2 := cell_keep m3_1 hb y_1
    have y_2 : W.heap.size < w2.heap.size := Nat.lt_of_lt_of_le y_1 hb.size
    clear m0_1 m1_1 m2_1 m3_1 y_1
    have B2 := Lib.hid (B1.out.trans (hb.mono B1.out.size))
    have RG2 := Lib.hid (RG1.out.up hb)
    have L_2 := Lib.hid (L_1.out.up hb)
    have man_2 := Lib.hid (man_1.out.up hb)
    have ducks_2 := Lib.hid (ducks_1.out.up hb)
    have q0_2 := cell_keep q0_1 hb z1
    have q1_2 := cell_keep q1_1 hb z1
    have z2 : w.heap.size < w2.heap.size := Nat.lt_of_lt_of_le z1 hb.size
    clear q0_1 q1_1 z1
    clear hb
    go_wp2_with fail
    rw [show w1.alloc (.cells #[.int .i64 1, .int .i64 0] 3) = w2 from HW2.out]
    refine (Same_t Ak _ ck _ [1, 0] 2 2 w2 rfl rfl KK2.out lit2.out (by decide)).mono ?_
    rintro e w3 ⟨rfl, hb⟩
    have m0_3 := cell_keep m0_2 hb y_2
    have m1_3 := cell_keep m1_2 hb y_2
    have m2_3 := cell_keep m2_2 hb y_2
    have m3_3 := cell_keep m3_2 hb y_2
    have y_3 : W.heap.size < w3.heap.size := Nat.lt_of_lt_of_le y_2 hb.size
    clear m0_2 m1_2 m2_2 m3_2 y_2
    have B3 := Lib.hid (B2.out.trans (hb.mono B2.out.size))
    have RG3 := Lib.hid (RG2.out.up hb)
    have L_3 := Lib.hid (L_2.out.up hb)
    have man_3 := Lib.hid (man_2.out.up hb)
    have ducks_3 := Lib.hid (ducks_2.out.up hb)
    have q0_3 := cell_keep q0_2 hb z2
    have q1_3 := cell_keep q1_2 hb z2
    have z3 : w.heap.size < w3.heap.size := Nat.lt_of_lt_of_le z2 hb.size
    clear q0_2 q1_2 z2
    clear hb
    go_wp2_with fail
    refine (HLg.out w3 RG3.out).mono ?_
    rintro e w4 ⟨rfl, hb⟩
    have m0_4 := cell_keep m0_3 hb y_3
    have m1_4 := cell_keep m1_3 hb y_3
    have m2_4 := cell_keep m2_3 hb y_3
    have m3_4 := cell_keep m3_3 hb y_3
    have y_4 : W.heap.size < w4.heap.size := Nat.lt_of_lt_of_le y_3 hb.size
    clear m0_3 m1_3 m2_3 m3_3 y_3
    have B4 := Lib.hid (B3.out.trans (hb.mono B3.out.size))
    have RG4 := Lib.hid (RG3.out.up hb)
    have L_4 := Lib.hid (L_3.out.up hb)
    have man_4 := Lib.hid (man_3.out.up hb)
    have ducks_4 := Lib.hid (ducks_3.out.up hb)
    have q0_4 := cell_keep q0_3 hb z3
    have q1_4 := cell_keep q1_3 hb z3
    have z4 : w.heap.size < w4.heap.size := Nat.lt_of_lt_of_le z3 hb.size
    clear q0_3 q1_3 z3
    clear hb
    go_wp2_with fail
    go_ret
    exact ⟨rfl, B4.out⟩
end Go.Proofs.Ytibcjkpfpiamkab

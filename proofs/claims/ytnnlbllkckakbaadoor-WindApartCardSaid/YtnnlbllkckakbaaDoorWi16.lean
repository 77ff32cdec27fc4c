/-
  The walk of Best of the reference. No condition.
-/
import Derived.Test.YtnnlbllkckakbaaDoorWi15
import Derived.Deep.RegionWith
import Derived.Deep.RegionHeld3
namespace Go.Proofs.YtnnlbllkckakbaaDoor
open Go.RowKit
set_option linter.unusedVariables false

theorem ra_of {w : World} {g : Nat} {L : List Int} {t : TypeId} (h : w.heap[g]? = some (.cells (rv L) t (0, 0))) : w.rangeAt g 0 (ints L) := fun j v hv => by
  rw [Nat.zero_add, blk_cell h]
  unfold rv
  rw [List.getElem?_toArray]
  exact hv
theorem size_ints {L : List Int} (h : Rose L) : (Tryd.prog.info? 61).map (·.size) = some (ints L).length := by
  unfold Rose at h
  rw [ints_length, h]
  exact Tryd.sizeRose
theorem bK_yes {L : List Int} {v : Int} {k : Nat} (h : roS ⟨(bK L v k : Nat), v⟩ L < roS ⟨((k + 1 : Nat) : Int), v⟩ L) : bK L v (k + 1) = k + 1 := by rw [bK, if_pos h]
theorem bK_no {L : List Int} {v : Int} {k : Nat} (h : ¬ roS ⟨(bK L v k : Nat), v⟩ L < roS ⟨((k + 1 : Nat) : Int), v⟩ L) : bK L v (k + 1) = bK L v k := by rw [bK, if_neg h]
theorem bK_yes' {L : List Int} {v : Int} {p : Nat} (hp : 1 ≤ p) (h : roS ⟨(bK L v (p - 1) : Nat), v⟩ L < roS ⟨(p : Int), v⟩ L) : bK L v p = p := by
  obtain ⟨k, rfl⟩ : ∃ k, p = k + 1 := ⟨p - 1, by omega⟩
  exact bK_yes h
theorem bK_no' {L : List Int} {v : Int} {p : Nat} (hp : 1 ≤ p) (h : ¬ roS ⟨(bK L v (p - 1) : Nat), v⟩ L < roS ⟨(p : Int), v⟩ L) : bK L v p = bK L v (p - 1) := by
  obtain ⟨k, rfl⟩ : ∃ k, p = k + 1 := ⟨p - 1, by omega⟩
  exact bK_no h
set_option maxHeartbeats 1600000 in
set_option maxRecDepth 4000 in
theorem rBest_any (L : List Int) (v : Int) (w : World) (hL : Rose L) : Calls Tryd.prog 55 #[.agg (rv L), .int .i64 v] w (BestPost w L v) := by
  obtain ⟨W1, hW1, hblk1, hs1, hb1⟩ := one_blk w (rv L) 61
  obtain ⟨W2, hW2, hblk2, hs2, hb2⟩ := one_blk W1 #[.int .i64 0, .int .i64 0] 23
  have BK := Lib.hid ((hb2.block _ hs1).trans hblk1)
  have G4 := Lib.hid hblk2
  have B2 := Lib.hid (hb1.trans (hb2.mono hb1.size))
  have HRo := Lib.hid (fun w => roseOK_any L w hL)
  have HSz := Lib.hid (size_rose hL)
  have N1 := Lib.hid hs1
  clear hblk1 hs1 hb1 hblk2 hs2 hb2
  by_cases hr : roseB L = true
  · rw [rosE_yes hr] at HRo
    by_cases hv : wd v = true
    · have e0 : (roseB L && wd v) = true := by rw [hr, hv]; rfl
      have eE : bestE L v = 0 := if_pos e0
      have eA : bestA L v = ⟨(bK L v 31 : Nat), v⟩ := if_pos e0
      have eN : bestN L v = roS ⟨(bK L v 31 : Nat), v⟩ L := if_pos e0
      have hvw := wd_iff.1 hv
      have HS := Lib.hid (fun (k : Nat) (hk : k < 32) w => rsum_any L ⟨(k : Int), v⟩ w (arcE_yes (by unfold okA; rw [Bool.and_eq_true, pt_iff]; exact ⟨⟨by simp only; omega, by simp only; omega⟩, hv⟩)) hL hr)
      have HLe := Lib.hid (fun (k : Nat) => roS_le (a := ⟨(k : Int), v⟩) hr)
      have HBl := Lib.hid (fun k => bK_le L v k)
      have HY := Lib.hid (fun k hk h => bK_yes' (L := L) (v := v) (p := k) hk h)
      have HN := Lib.hid (fun k hk h => bK_no' (L := L) (v := v) (p := k) hk h)
      have HE := Lib.hid (And.intro eE (And.intro eA eN))
      have hv1 : ¬ v < 1 := by omega
      have hv2 : ¬ 32 < v := by omega
      clear e0 eE eA eN hr hv hvw
      obtain ⟨R, hR⟩ : ∃ R : Nat → Int, ∀ k, R k = roS ⟨(k : Int), v⟩ L := ⟨_, fun _ => rfl⟩
      have HRr := Lib.hid hR
      simp only [← hR] at HS HLe HY HN HE
      clear hR
      go_enter Tryd.func55, Tryd.ntmps55
      go_wp2_with (refine wpList_load_row rfl 61 (.tmp 2) rfl w.heap.size rfl _ _ _ _ BK.out Tryd.underlying61 rfl HSz.out ?_)
      clear hW1 hW2
      refine (HRo.out W2).mono ?_
      rintro e w3 ⟨rfl, hb⟩
      have BK3 := Lib.hid ((hb.block _ (lt_of_block BK.out)).trans BK.out)
      have G43 := Lib.hid ((hb.block _ (lt_of_block G4.out)).trans G4.out)
      have B3 := Lib.hid (B2.out.trans (hb.mono B2.out.size))
      clear hb
      obtain ⟨W4, hW4, hblk4, hs4, hb4⟩ := one_blk w3 #[.int .i64 0, .int .i64 v] 23
      have G7 := Lib.hid hblk4
      have B4 := Lib.hid hb4
      clear hblk4 hs4 hb4
      go_wp2_with fail
      clear hW4
      go_loopw [9] (fun i wr => ∃ k : Nat, 1 ≤ k ∧ k ≤ 32 ∧ i = .int .i64 (k : Int) ∧ wr.heap[w3.heap.size]? = some (.cells #[.int .i64 (bK L v (k - 1) : Nat), .int .i64 v] 23 (0, 0)) ∧ Below w3.heap.size w3 wr) (fun i _ => 32 - (intOf i).toNat)
      case atStart => exact ⟨1, by omega, by omega, rfl, G7.out, B4.out⟩
      case round =>
        obtain ⟨k, hk1, hk, rfl, hg, hb⟩ := hrel
        have G7 := Lib.hid hg
        have BW := Lib.hid hb
        have BKr := Lib.hid ((hb.block _ (lt_of_block BK3.out)).trans BK3.out)
        clear hg hb
        have hbl := HBl.out (k - 1)
        obtain ⟨q, hq⟩ : ∃ q, bK L v (k - 1) = q := ⟨_, rfl⟩
        have HQ := Lib.hid hq
        by_cases hlt : k < 32
        · obtain ⟨W5, hW5, c0, c1, hs5, hb5⟩ := one_pt wr (.int .i64 (k : Int)) (.int .i64 v) 23
          have BK5 := (hb5.block _ (lt_of_block BKr.out)).trans BKr.out
          have G75 := (hb5.block _ (lt_of_block G7.out)).trans G7.out
          rw [hq] at G75
          have B5 := Lib.hid (BW.out.trans (hb5.mono BW.out.size))
          have F5 := Lib.hid (And.intro c0 (And.intro c1 hs5))
          have HS1 := Lib.hid (HS.out k hlt)
          have HS2 := Lib.hid (HS.out q (by omega))
          have hle1 := HLe.out k
          have hle2 := HLe.out q
          have HYk := HY.out k hk1
          have HNk := HN.out k hk1
          rw [hq] at HYk HNk
          have HYk2 := Lib.hid HYk
          have HNk2 := Lib.hid HNk
          have ld := fun d os => ld_rose hL (blk_regrown BK5 d os)
          have t7 := two_row G75
          have g0 := fun d os => cell_regrown c0 d os
          have g1 := fun d os => cell_regrown c1 d os
          have g2 := fun d os => cell_regrown t7.1 d os
          have g3 := fun d os => cell_regrown t7.2.1 d os
          have GG := Lib.hid G75
          generalize R k = S1 at *
          generalize R q = S2 at *
          clear hb5 hs5 BK5 c0 c1 hq HYk HNk t7 G75
          unfold Pt.v at HS1 HS2
          simp only at HS1 HS2
          have hlt' : decide ((k : Int) < 32) = true := by simp; omega
          go_wp2_with fail
          clear hW5
          refine wp_region_quiet_below (by kernel_rfl) (by kernel_rfl) ?_
          go_big_quiet_want
          refine quiet_load 61 (.tmp 2) rfl (.agg (rv L)) (fun w' hw' => by obtain ⟨p, rfl⟩ := hw'; exact ld p.d p.os) ?_
          go_simp
          go_big_quiet_on
          go_big_quiet_step (fail)
          go_big_quiet_step (with_reducible exact Calls.regrown_of (HS1.out _))
          go_big_quiet_want
          refine quiet_load 61 (.tmp 2) rfl (.agg (rv L)) (fun w' hw' => by obtain ⟨p, rfl⟩ := hw'; exact ld p.d p.os) ?_
          go_simp
          go_big_quiet_on
          go_big_quiet_step (fail)
          go_big_quiet_step (with_reducible exact Calls.regrown_of (HS2.out _))
          repeat (go_big_quiet_step (fail))
          refine wpQuiet_nil ?_
          intro _ hw'
          obtain ⟨⟨dq, osq⟩, hw''⟩ := hw'
          subst hw''
          generalize hW6 : «Sort».grow _ _ = w6
          have BR : Below W5.heap.size W5 w6 := by rw [← hW6]; exact below_regrown W5 dq osq
          have G76 := Lib.hid ((BR.block _ (lt_of_block GG.out)).trans GG.out)
          have B6 := Lib.hid (B5.out.trans (BR.mono B5.out.size))
          have k6 := pt_keep F5.out BR
          have d0 := k6.1
          have d1 := k6.2
          clear ld g0 g1 g2 g3 BR k6 hW6
          by_cases hgt : S2 < S1
          · have HX := Lib.hid (HYk2.out hgt)
            obtain ⟨q0, q1, q2, q3⟩ := two_row G76.out
            have hz : w3.heap.size < w6.heap.size := lt_of_block G76.out
            go_wp2_with fail
            go_roundw
            case rel => exact ⟨k + 1, by omega, by omega, by go_num, by rw [Nat.add_sub_cancel, HX.out]; exact two_set G76.out, Below.setCell (Below.setCell B6.out (Nat.le_refl _) _) (Nat.le_refl _) _⟩
            case measure => simp [intOf]; omega
          · have HX := Lib.hid (HNk2.out (by omega))
            go_wp2_with fail
            go_roundw
            case rel => exact ⟨k + 1, by omega, by omega, by go_num, by rw [Nat.add_sub_cancel, HX.out]; exact G76.out, B6.out⟩
            case measure => simp [intOf]; omega
        · obtain rfl : k = 32 := by omega
          have HS1 := Lib.hid (HS.out q (by omega))
          have hq31 : bK L v 31 = q := hq
          have HE2 := HE.out
          rw [hq31] at HE2
          have HE3 := Lib.hid HE2
          have G7q := G7.out
          rw [hq] at G7q
          have G7r := Lib.hid G7q
          have G4r := Lib.hid ((BW.out.block _ (lt_of_block G43.out)).trans G43.out)
          generalize R q = S1 at *
          clear hq hq31 HE2 G7q
          unfold Pt.v at HS1
          simp only at HS1
          obtain ⟨q0, q1, q2, q3⟩ := two_row G7r.out
          obtain ⟨p0, p1, p2, p3⟩ := two_row G4r.out
          have hra := ra_of BKr.out
          have hsz := size_ints hL
          have hun := Tryd.underlying61
          have hbg : w.heap.size < wr.heap.size := lt_of_block BKr.out
          have hbg7 : w3.heap.size < wr.heap.size := lt_of_block G7r.out
          have BD := Lib.hid ((Below.refl wr.heap.size wr).drew)
          unfold rv at HS1
          obtain ⟨R0, hR0⟩ : ∃ R0, ints L = R0 := ⟨_, rfl⟩
          rw [hR0] at HS1 hra hsz
          have HK1 := Lib.hid (fun (w5 : World) (hb : Below wr.drew.heap.size wr.drew w5) => let h := BD.out.trans hb; show w5.rangeAt w.heap.size 0 R0 ∧ w5.cell? ⟨w3.heap.size, 0, none⟩ = some (.int .i64 (q : Int)) ∧ w5.cell? ⟨w3.heap.size, 1, none⟩ = some (.int .i64 v) from ⟨fun i u hi => (h.cell (p := ⟨w.heap.size, 0 + i, none⟩) hbg).trans (hra i u hi), (h.cell (p := ⟨w3.heap.size, 0, none⟩) hbg7).trans q0, (h.cell (p := ⟨w3.heap.size, 1, none⟩) hbg7).trans q1⟩)
          have n1 : W1.heap.size ≠ w.heap.size := by have := N1.out; omega
          have n2 : W1.heap.size ≠ w3.heap.size := by have := lt_of_block G43.out; omega
          have HK2 := Lib.hid (fun (w5 : World) (a b : Value) (h : w5.rangeAt w.heap.size 0 R0 ∧ w5.cell? ⟨w3.heap.size, 0, none⟩ = some (.int .i64 (q : Int)) ∧ w5.cell? ⟨w3.heap.size, 1, none⟩ = some (.int .i64 v)) => show ((w5.setCell ⟨W1.heap.size, 0, none⟩ a).setCell ⟨W1.heap.size, 1, none⟩ b).rangeAt w.heap.size 0 R0 ∧ ((w5.setCell ⟨W1.heap.size, 0, none⟩ a).setCell ⟨W1.heap.size, 1, none⟩ b).cell? ⟨w3.heap.size, 0, none⟩ = some (.int .i64 (q : Int)) ∧ ((w5.setCell ⟨W1.heap.size, 0, none⟩ a).setCell ⟨W1.heap.size, 1, none⟩ b).cell? ⟨w3.heap.size, 1, none⟩ = some (.int .i64 v) from
            ⟨fun i u hi => ((World.cell?_setCell_far _ _ _ _ n1).trans (World.cell?_setCell_far _ _ _ _ n1)).trans (h.1 i u hi), ((World.cell?_setCell_far _ _ _ _ n2).trans (World.cell?_setCell_far _ _ _ _ n2)).trans h.2.1, ((World.cell?_setCell_far _ _ _ _ n2).trans (World.cell?_setCell_far _ _ _ _ n2)).trans h.2.2⟩)
          have HS0 := Lib.hid (show wr.drew.rangeAt w.heap.size 0 R0 ∧ wr.drew.cell? ⟨w3.heap.size, 0, none⟩ = some (.int .i64 (q : Int)) ∧ wr.drew.cell? ⟨w3.heap.size, 1, none⟩ = some (.int .i64 v) from ⟨hra, q0, q1⟩)
          clear p0 p1 p2 p3 q0 q1 q2 q3 hra hR0
          go_wp2_with fail
          go_region_held3 (fun w' => w'.rangeAt w.heap.size 0 R0 ∧ w'.cell? ⟨w3.heap.size, 0, none⟩ = some (.int .i64 (q : Int)) ∧ w'.cell? ⟨w3.heap.size, 1, none⟩ = some (.int .i64 v))
            (first | exact HS0.out | exact SK.out | exact HK2.out _ _ _ SK.out | go_keep)
            ((go_at_call 91; refine (HS1.out _).mono ?_; rintro e w5 ⟨rfl, hb⟩; have SK := Lib.hid (HK1.out _ hb); have hb2 := BD.out.trans hb; have G45 := Lib.hid ((hb2.block _ (lt_of_block G4r.out)).trans G4r.out); have B5 := Lib.hid (B3.out.trans ((BW.out.trans (hb2.mono BW.out.size)).mono B3.out.size)); clear hb hb2; obtain ⟨p0, p1, p2, p3⟩ := two_row G45.out; have hz := lt_of_block G45.out))
          all_goals (
            go_wp2_with fail
            (try simp only [Exit.inBlock, Exit.then])
            refine bodyPost_ret (v := .tuple #[.agg #[.int .i64 q, .int .i64 v], .int .i64 S1, .int .i64 0]) ?_ rfl ?_
            · refine (results_tri rfl _ _ _ rfl (run_loadVar_row _ W1.heap.size 23 _ _ _ _ (two_set G45.out) Tryd.underlying23 rfl Tryd.sizeArc)).trans ?_
              rfl
            unfold BestPost
            rw [HE3.out.1, HE3.out.2.1, HE3.out.2.2]
            exact ⟨rfl, Below.setCell (Below.setCell B5.out (Nat.le_of_lt N1.out) _) (Nat.le_of_lt N1.out) _⟩)
    · have e0 : ¬ (roseB L && wd v) = true := by rw [hr]; simpa using hv
      have HE := Lib.hid (And.intro (show bestE L v = 1 from if_neg e0) (And.intro (show bestA L v = ⟨0, 0⟩ from if_neg e0) (show bestN L v = 0 from if_neg e0)))
      have hvw : v < 1 ∨ 32 < v := by
        rcases Int.lt_or_le v 1 with h | h
        · exact .inl h
        · rcases Int.lt_or_le 32 v with h2 | h2
          · exact .inr h2
          · exact absurd (wd_iff.2 ⟨h, h2⟩) hv
      clear e0 hr hv
      have key : ∀ (b1 b2 : Bool), decide (v < 1) = b1 → decide (32 < v) = b2 → (b1 || b2) = true → Calls Tryd.prog 55 #[.agg (rv L), .int .i64 v] w (BestPost w L v) := by
        intro b1 b2 h1 h2 h3
        cases b1
        · cases b2
          · cases h3
          · go_enter Tryd.func55, Tryd.ntmps55
            go_wp2_with (refine wpList_load_row rfl 61 (.tmp 2) rfl w.heap.size rfl _ _ _ _ BK.out Tryd.underlying61 rfl HSz.out ?_)
            clear hW1 hW2
            refine (HRo.out W2).mono ?_
            rintro e w3 ⟨rfl, hb⟩
            have G43 := Lib.hid ((hb.block _ (lt_of_block G4.out)).trans G4.out)
            have B3 := Lib.hid (B2.out.trans (hb.mono B2.out.size))
            obtain ⟨p0, p1, p2, p3⟩ := two_row G43.out
            have hz : W1.heap.size < w3.heap.size := lt_of_block G43.out
            clear hb
            go_wp2_with fail
            (try simp only [Exit.inBlock, Exit.then])
            refine bodyPost_ret (v := .tuple #[.agg #[.int .i64 0, .int .i64 0], .int .i64 0, .int .i64 1]) ?_ rfl ?_
            · refine (results_tri rfl _ _ _ rfl (run_loadVar_row _ W1.heap.size 23 _ _ _ _ (two_set G43.out) Tryd.underlying23 rfl Tryd.sizeArc)).trans ?_
              rfl
            unfold BestPost
            rw [HE.out.1, HE.out.2.1, HE.out.2.2]
            exact ⟨rfl, Below.setCell (Below.setCell B3.out (Nat.le_of_lt N1.out) _) (Nat.le_of_lt N1.out) _⟩
        · go_enter Tryd.func55, Tryd.ntmps55
          go_wp2_with (refine wpList_load_row rfl 61 (.tmp 2) rfl w.heap.size rfl _ _ _ _ BK.out Tryd.underlying61 rfl HSz.out ?_)
          clear hW1 hW2
          refine (HRo.out W2).mono ?_
          rintro e w3 ⟨rfl, hb⟩
          have G43 := Lib.hid ((hb.block _ (lt_of_block G4.out)).trans G4.out)
          have B3 := Lib.hid (B2.out.trans (hb.mono B2.out.size))
          obtain ⟨p0, p1, p2, p3⟩ := two_row G43.out
          have hz : W1.heap.size < w3.heap.size := lt_of_block G43.out
          clear hb
          go_wp2_with fail
          (try simp only [Exit.inBlock, Exit.then])
          refine bodyPost_ret (v := .tuple #[.agg #[.int .i64 0, .int .i64 0], .int .i64 0, .int .i64 1]) ?_ rfl ?_
          · refine (results_tri rfl _ _ _ rfl (run_loadVar_row _ W1.heap.size 23 _ _ _ _ (two_set G43.out) Tryd.underlying23 rfl Tryd.sizeArc)).trans ?_
            rfl
          unfold BestPost
          rw [HE.out.1, HE.out.2.1, HE.out.2.2]
          exact ⟨rfl, Below.setCell (Below.setCell B3.out (Nat.le_of_lt N1.out) _) (Nat.le_of_lt N1.out) _⟩
      refine key _ _ rfl rfl ?_
      rcases hvw with h | h
      · rw [decide_eq_true h]; rfl
      · rw [decide_eq_true h, Bool.or_true]
  · have e0 : ¬ (roseB L && wd v) = true := by
      rw [Bool.not_eq_true] at hr
      rw [hr]
      simp
    have HE := Lib.hid (And.intro (show bestE L v = 1 from if_neg e0) (And.intro (show bestA L v = ⟨0, 0⟩ from if_neg e0) (show bestN L v = 0 from if_neg e0)))
    rw [Bool.not_eq_true] at hr
    rw [rosE_no hr] at HRo
    clear e0 hr
    go_enter Tryd.func55, Tryd.ntmps55
    go_wp2_with (refine wpList_load_row rfl 61 (.tmp 2) rfl w.heap.size rfl _ _ _ _ BK.out Tryd.underlying61 rfl HSz.out ?_)
    clear hW1 hW2
    refine (HRo.out W2).mono ?_
    rintro e w3 ⟨rfl, hb⟩
    have G43 := Lib.hid ((hb.block _ (lt_of_block G4.out)).trans G4.out)
    have B3 := Lib.hid (B2.out.trans (hb.mono B2.out.size))
    obtain ⟨p0, p1, p2, p3⟩ := two_row G43.out
    have hz : W1.heap.size < w3.heap.size := lt_of_block G43.out
    clear hb
    go_wp2_with fail
    (try simp only [Exit.inBlock, Exit.then])
    refine bodyPost_ret (v := .tuple #[.agg #[.int .i64 0, .int .i64 0], .int .i64 0, .int .i64 1]) ?_ rfl ?_
    · refine (results_tri rfl _ _ _ rfl (run_loadVar_row _ W1.heap.size 23 _ _ _ _ (two_set G43.out) Tryd.underlying23 rfl Tryd.sizeArc)).trans ?_
      rfl
    unfold BestPost
    rw [HE.out.1, HE.out.2.1, HE.out.2.2]
    exact ⟨rfl, Below.setCell (Below.setCell B3.out (Nat.le_of_lt N1.out) _) (Nat.le_of_lt N1.out) _⟩
end Go.Proofs.YtnnlbllkckakbaaDoor

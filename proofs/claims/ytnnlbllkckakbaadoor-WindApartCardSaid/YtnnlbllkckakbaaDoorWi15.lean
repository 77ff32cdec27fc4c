/-
  The best arc of a width: the walk of Best of package wind. No condition.
-/
import Derived.Test.YtnnlbllkckakbaaDoorWi14
namespace Go.Proofs.YtnnlbllkckakbaaDoor
open Go.RowKit
set_option linter.unusedVariables false

/-- The best arc among those from 0 to k. -/
def bK (L : List Int) (v : Int) : Nat → Nat
  | 0 => 0
  | k + 1 => if roS ⟨(bK L v k : Nat), v⟩ L < roS ⟨((k + 1 : Nat) : Int), v⟩ L then k + 1 else bK L v k
theorem bK_le (L : List Int) (v : Int) : ∀ k, bK L v k ≤ k
  | 0 => Nat.le_refl _
  | k + 1 => by
    have := bK_le L v k
    rw [bK]
    split <;> omega
def bM (L : List Int) (v : Int) : Nat → Int
  | 0 => -1
  | k + 1 => roS ⟨(bK L v k : Nat), v⟩ L
def bF (L : List Int) (v : Int) : Nat → Int
  | 0 => 0
  | k + 1 => (bK L v k : Nat)
def bW (v : Int) : Nat → Int
  | 0 => 0
  | _ + 1 => v
theorem best_yes {L : List Int} {v : Int} (hr : roseB L = true) : ∀ {k : Nat}, bM L v k < roS ⟨(k : Int), v⟩ L → bF L v (k + 1) = (k : Int) ∧ bW v (k + 1) = v ∧ bM L v (k + 1) = roS ⟨(k : Int), v⟩ L
  | 0, _ => ⟨rfl, rfl, rfl⟩
  | k + 1, h => by
    have e : bK L v (k + 1) = k + 1 := by rw [bK, if_pos (show roS ⟨(bK L v k : Nat), v⟩ L < _ from h)]
    refine ⟨?_, rfl, ?_⟩
    · show ((bK L v (k + 1) : Nat) : Int) = _
      rw [e]
    · show roS ⟨(bK L v (k + 1) : Nat), v⟩ L = _
      rw [e]
theorem best_no {L : List Int} {v : Int} (hr : roseB L = true) : ∀ {k : Nat}, ¬ bM L v k < roS ⟨(k : Int), v⟩ L → bF L v (k + 1) = bF L v k ∧ bW v (k + 1) = bW v k ∧ bM L v (k + 1) = bM L v k
  | 0, h => by
    have h1 := roS_le (a := ⟨((0 : Nat) : Int), v⟩) hr
    have h2 : bM L v 0 = -1 := rfl
    omega
  | k + 1, h => by
    have e : bK L v (k + 1) = bK L v k := by rw [bK, if_neg (show ¬ roS ⟨(bK L v k : Nat), v⟩ L < _ from h)]
    refine ⟨?_, rfl, ?_⟩
    · show ((bK L v (k + 1) : Nat) : Int) = (bK L v k : Nat)
      rw [e]
    · show roS ⟨(bK L v (k + 1) : Nat), v⟩ L = roS ⟨(bK L v k : Nat), v⟩ L
      rw [e]
def bestE (L : List Int) (v : Int) : Int := if roseB L && wd v then 0 else 1
def bestA (L : List Int) (v : Int) : Pt := if roseB L && wd v then ⟨(bK L v 31 : Nat), v⟩ else ⟨0, 0⟩
def bestN (L : List Int) (v : Int) : Int := if roseB L && wd v then roS ⟨(bK L v 31 : Nat), v⟩ L else 0
theorem bM_le {L : List Int} (hr : roseB L = true) (v : Int) (k : Nat) : -1 ≤ bM L v k ∧ bM L v k ≤ 320000 := by
  cases k with
  | zero => exact ⟨Int.le_refl _, by show (-1 : Int) ≤ 320000; omega⟩
  | succ k =>
    have := roS_le (a := ⟨(bK L v k : Nat), v⟩) hr
    show -1 ≤ roS ⟨(bK L v k : Nat), v⟩ L ∧ _
    exact ⟨by omega, this.2⟩
theorem results_tri {fn : Func} {p s t : Tmp} {ty : TypeId} (h : fn.results = #[.cell p ty, .tmp s, .tmp t]) (tmps : Array Value) (P : Program) (w : World) {a : Addr} {u : Value} (hp : tmps.getD p undef = .pointer (some a)) (hl : (loadVar ty a).run P w = .ok u w) :
    (results fn tmps).run P w = .ok (.tuple #[u, tmps.getD s undef, tmps.getD t undef]) w := by
  simp only [results, h]
  have hp' : tmps[p]?.getD undef = .pointer (some a) := by simpa using hp
  simp [Result.andThen, hp', asAddr, hl]
theorem two_row {w : World} {g : Nat} {x y : Int} {t : TypeId} (h : w.heap[g]? = some (.cells #[.int .i64 x, .int .i64 y] t (0, 0))) :
    w.cell? ⟨g, 0, none⟩ = some (.int .i64 x) ∧ w.cell? ⟨g, 1, none⟩ = some (.int .i64 y) ∧ w.frozen? ⟨g, 0, none⟩ = false ∧ w.frozen? ⟨g, 1, none⟩ = false :=
  ⟨by rw [blk_cell h]; rfl, by rw [blk_cell h]; rfl, blk_free h 0, blk_free h 1⟩
theorem two_set {w : World} {g : Nat} {x y x' y' : Int} {t : TypeId} (h : w.heap[g]? = some (.cells #[.int .i64 x, .int .i64 y] t (0, 0))) :
    ((w.setCell ⟨g, 0, none⟩ (.int .i64 x')).setCell ⟨g, 1, none⟩ (.int .i64 y')).heap[g]? = some (.cells #[.int .i64 x', .int .i64 y'] t (0, 0)) :=
  blk_set (blk_set h 0 (.int .i64 x')) 1 (.int .i64 y')
theorem Tryd.sizeArc : (Tryd.prog.info? 23).map (·.size) = some 2 := by kernel_rfl
def BestPost (w : World) (L : List Int) (v : Int) (e : Ending) (w' : World) : Prop := e = .returned (.tuple #[(bestA L v).v, .int .i64 (bestN L v), .int .i64 (bestE L v)]) ∧ Below w.heap.size w w'
set_option maxHeartbeats 1600000 in
set_option maxRecDepth 4000 in
theorem Best_any (L : List Int) (v : Int) (w : World) (hL : Rose L) : Calls Tryd.prog 54 #[.agg (rv L), .int .i64 v] w (BestPost w L v) := by
  obtain ⟨W1, hW1, hblk1, hs1, hb1⟩ := one_blk w (rv L) 61
  obtain ⟨W2, hW2, hblk2, hs2, hb2⟩ := one_blk W1 #[.int .i64 0, .int .i64 0] 23
  have BK := Lib.hid ((hb2.block _ hs1).trans hblk1)
  have G4 := Lib.hid hblk2
  have B2 := Lib.hid (hb1.trans (hb2.mono hb1.size))
  have HRo := Lib.hid (fun w => isRose_any L w hL)
  have HWd := Lib.hid (fun w => isWidth_any v w)
  have HSz := Lib.hid (size_rose hL)
  have N1 := Lib.hid hs1
  clear hblk1 hs1 hb1 hblk2 hs2 hb2
  by_cases hr : roseB L = true
  · rw [hr] at HRo
    by_cases hv : wd v = true
    · have e0 : (roseB L && wd v) = true := by rw [hr, hv]; rfl
      have eE : bestE L v = 0 := if_pos e0
      have eA : bestA L v = ⟨bF L v 32, bW v 32⟩ := by unfold bestA; rw [if_pos e0]; rfl
      have eN : bestN L v = bM L v 32 := by unfold bestN; rw [if_pos e0]; rfl
      rw [hv] at HWd
      have hvw := wd_iff.1 hv
      have HP := Lib.hid (fun (k : Nat) (hk : k < 32) w => pointsOf_any ⟨(k : Int), v⟩ w (arcE_yes (by unfold okA; rw [Bool.and_eq_true, pt_iff]; exact ⟨⟨by simp only; omega, by simp only; omega⟩, hv⟩)))
      have HS := Lib.hid (fun (k : Nat) w => sum_any (arcN ⟨(k : Int), v⟩) L w (arcN_lt _) hL hr)
      have HRS := Lib.hid (fun (k : Nat) => roS_bits ⟨(k : Int), v⟩ L)
      have HLe := Lib.hid (fun (k : Nat) => roS_le (a := ⟨(k : Int), v⟩) hr)
      have HM := Lib.hid (fun k => bM_le hr v k)
      have HY := Lib.hid (fun k h => best_yes (L := L) (v := v) hr (k := k) h)
      have HN := Lib.hid (fun k h => best_no (L := L) (v := v) hr (k := k) h)
      have HE := Lib.hid (And.intro eE (And.intro eA eN))
      clear e0 eE eA eN hr hv
      go_enter Tryd.func54, Tryd.ntmps54
      go_wp2_with (refine wpList_load_row rfl 61 (.tmp 2) rfl w.heap.size rfl _ _ _ _ BK.out Tryd.underlying61 rfl HSz.out ?_)
      clear hW1 hW2
      refine (HRo.out W2).mono ?_
      rintro e w3 ⟨rfl, hb⟩
      have BK3 := Lib.hid ((hb.block _ (lt_of_block BK.out)).trans BK.out)
      have G43 := Lib.hid ((hb.block _ (lt_of_block G4.out)).trans G4.out)
      have B3 := Lib.hid (B2.out.trans (hb.mono B2.out.size))
      clear hb
      go_wp2_with fail
      refine (HWd.out w3).mono ?_
      rintro e w' ⟨rfl, rfl⟩
      obtain ⟨W4, hW4, hblk4, hs4, hb4⟩ := one_blk w3 #[.int .i64 0, .int .i64 0] 23
      have G7 := Lib.hid hblk4
      have B4 := Lib.hid hb4
      clear hblk4 hs4 hb4
      have HW4 := Lib.hid hW4
      clear hW4
      go_wp2_with fail
      rw [HW4.out]
      clear HW4
      go_loopw [8, 22] (fun m i wr => ∃ k : Nat, k ≤ 32 ∧ i = .int .i64 k ∧ m = .int .i64 (bM L v k) ∧ wr.heap[w3.heap.size]? = some (.cells #[.int .i64 (bF L v k), .int .i64 (bW v k)] 23 (0, 0)) ∧ Below w3.heap.size w3 wr) (fun _ i _ => 32 - (intOf i).toNat)
      case atStart => exact ⟨0, by omega, rfl, rfl, G7.out, B4.out⟩
      case round =>
        obtain ⟨k, hk, rfl, rfl, hg, hb⟩ := hrel
        have G7 := Lib.hid hg
        have BW := Lib.hid hb
        have BKr := Lib.hid ((hb.block _ (lt_of_block BK3.out)).trans BK3.out)
        clear hg hb
        by_cases hlt : k < 32
        · obtain ⟨W5, hW5, c0, c1, hs5, hb5⟩ := one_pt wr (.int .i64 (k : Int)) (.int .i64 v) 23
          have BK5 := (hb5.block _ (lt_of_block BKr.out)).trans BKr.out
          have G75 := Lib.hid ((hb5.block _ (lt_of_block G7.out)).trans G7.out)
          have B5 := Lib.hid (BW.out.trans (hb5.mono BW.out.size))
          have F5 := Lib.hid (And.intro c0 (And.intro c1 hs5))
          have HPk := Lib.hid (HP.out k hlt)
          have HSk := Lib.hid (HS.out k)
          rw [HRS.out k] at HSk
          have hle := HLe.out k
          have hm := HM.out k
          have HYk := Lib.hid (HY.out k)
          have HNk := Lib.hid (HN.out k)
          have ld := fun d os => ld_rose hL (blk_regrown BK5 d os)
          have g0 := fun d os => cell_regrown c0 d os
          have g1 := fun d os => cell_regrown c1 d os
          generalize roS ⟨(k : Int), v⟩ L = S at *
          generalize arcN ⟨(k : Int), v⟩ = NN at *
          generalize bM L v k = M at *
          clear hb5 hs5 BK5 c0 c1
          unfold Pt.v at HPk
          simp only at HPk
          unfold hasV at HSk
          go_wp2_with fail
          clear hW5
          refine wp_region_quiet_below (by kernel_rfl) (by kernel_rfl) ?_
          go_big_quiet_want
          refine quiet_load 61 (.tmp 2) rfl (.agg (rv L)) (fun w' hw' => by obtain ⟨p, rfl⟩ := hw'; exact ld p.d p.os) ?_
          go_simp
          go_big_quiet_on
          repeat (go_big_quiet_step (first | (with_reducible exact Calls.regrown_of (HPk.out _)) | (with_reducible exact Calls.regrown_of (HSk.out _))))
          refine wpQuiet_nil ?_
          intro _ hw'
          obtain ⟨⟨dq, osq⟩, hw''⟩ := hw'
          subst hw''
          generalize hW6 : «Sort».grow _ _ = w6
          have BR : Below W5.heap.size W5 w6 := by rw [← hW6]; exact below_regrown W5 dq osq
          have G76 := Lib.hid ((BR.block _ (lt_of_block G75.out)).trans G75.out)
          have B6 := Lib.hid (B5.out.trans (BR.mono B5.out.size))
          have k6 := pt_keep F5.out BR
          have d0 := k6.1
          have d1 := k6.2
          clear ld g0 g1 BR k6 hW6
          by_cases hgt : M < S
          · have HX := Lib.hid (HYk.out hgt)
            obtain ⟨q0, q1, q2, q3⟩ := two_row G76.out
            have hz : w3.heap.size < w6.heap.size := lt_of_block G76.out
            go_wp2_with fail
            go_roundw
            case rel => exact ⟨k + 1, by omega, by go_num, by rw [HX.out.2.2], by rw [HX.out.1, HX.out.2.1]; exact two_set G76.out, Below.setCell (Below.setCell B6.out (Nat.le_refl _) _) (Nat.le_refl _) _⟩
            case measure => simp [intOf]; omega
          · have HX := Lib.hid (HNk.out (by omega))
            go_wp2_with fail
            go_roundw
            case rel => exact ⟨k + 1, by omega, by go_num, by rw [HX.out.2.2], by rw [HX.out.1, HX.out.2.1]; exact G76.out, B6.out⟩
            case measure => simp [intOf]; omega
        · obtain rfl : k = 32 := by omega
          obtain ⟨q0, q1, q2, q3⟩ := two_row G7.out
          have G4r := Lib.hid ((BW.out.block _ (lt_of_block G43.out)).trans G43.out)
          obtain ⟨p0, p1, p2, p3⟩ := two_row G4r.out
          generalize bF L v 32 = F at *
          generalize bW v 32 = Wd at *
          generalize bM L v 32 = M at *
          have hz : W1.heap.size < wr.heap.size := lt_of_block G4r.out
          go_wp2_with fail
          (try simp only [Exit.inBlock, Exit.then])
          refine bodyPost_ret (v := .tuple #[.agg #[.int .i64 F, .int .i64 Wd], .int .i64 M, .int .i64 0]) ?_ rfl ?_
          · refine (results_tri rfl _ _ _ rfl (run_loadVar_row _ W1.heap.size 23 _ _ _ _ (two_set G4r.out) Tryd.underlying23 rfl Tryd.sizeArc)).trans ?_
            rfl
          unfold BestPost
          rw [HE.out.1, HE.out.2.1, HE.out.2.2]
          have B9 := B3.out.trans (BW.out.mono B3.out.size)
          exact ⟨rfl, Below.setCell (Below.setCell B9 (Nat.le_of_lt N1.out) _) (Nat.le_of_lt N1.out) _⟩
    · have e0 : ¬ (roseB L && wd v) = true := by rw [hr]; simpa using hv
      have HE := Lib.hid (And.intro (show bestE L v = 1 from if_neg e0) (And.intro (show bestA L v = ⟨0, 0⟩ from if_neg e0) (show bestN L v = 0 from if_neg e0)))
      rw [Bool.not_eq_true] at hv
      rw [hv] at HWd
      clear e0 hr hv
      go_enter Tryd.func54, Tryd.ntmps54
      go_wp2_with (refine wpList_load_row rfl 61 (.tmp 2) rfl w.heap.size rfl _ _ _ _ BK.out Tryd.underlying61 rfl HSz.out ?_)
      clear hW1 hW2
      refine (HRo.out W2).mono ?_
      rintro e w3 ⟨rfl, hb⟩
      have G43 := Lib.hid ((hb.block _ (lt_of_block G4.out)).trans G4.out)
      have B3 := Lib.hid (B2.out.trans (hb.mono B2.out.size))
      obtain ⟨p0, p1, p2, p3⟩ := two_row G43.out
      have hz : W1.heap.size < w3.heap.size := lt_of_block G43.out
      clear hb
      go_wp2_with fail
      refine (HWd.out w3).mono ?_
      rintro e w' ⟨rfl, rfl⟩
      go_wp2_with fail
      (try simp only [Exit.inBlock, Exit.then])
      refine bodyPost_ret (v := .tuple #[.agg #[.int .i64 0, .int .i64 0], .int .i64 0, .int .i64 1]) ?_ rfl ?_
      · refine (results_tri rfl _ _ _ rfl (run_loadVar_row _ W1.heap.size 23 _ _ _ _ (two_set G43.out) Tryd.underlying23 rfl Tryd.sizeArc)).trans ?_
        rfl
      unfold BestPost
      rw [HE.out.1, HE.out.2.1, HE.out.2.2]
      exact ⟨rfl, Below.setCell (Below.setCell B3.out (Nat.le_of_lt N1.out) _) (Nat.le_of_lt N1.out) _⟩
  · have e0 : ¬ (roseB L && wd v) = true := by
      rw [Bool.not_eq_true] at hr
      rw [hr]
      simp
    have HE := Lib.hid (And.intro (show bestE L v = 1 from if_neg e0) (And.intro (show bestA L v = ⟨0, 0⟩ from if_neg e0) (show bestN L v = 0 from if_neg e0)))
    rw [Bool.not_eq_true] at hr
    rw [hr] at HRo
    clear e0 hr
    go_enter Tryd.func54, Tryd.ntmps54
    go_wp2_with (refine wpList_load_row rfl 61 (.tmp 2) rfl w.heap.size rfl _ _ _ _ BK.out Tryd.underlying61 rfl HSz.out ?_)
    clear hW1 hW2
    refine (HRo.out W2).mono ?_
    rintro e w3 ⟨rfl, hb⟩
    have G43 := Lib.hid ((hb.block _ (lt_of_block G4.out)).trans G4.out)
    have B3 := Lib.hid (B2.out.trans (hb.mono B2.out.size))
    obtain ⟨p0, p1, p2, p3⟩ := two_row G43.out
    have hz : W1.heap.size < w3.heap.size := lt_of_block G43.out
    clear hb
    go_wp2_with fail
    (try simp only [Exit.inBlock, Exit.then])
    refine bodyPost_ret (v := .tuple #[.agg #[.int .i64 0, .int .i64 0], .int .i64 0, .int .i64 1]) ?_ rfl ?_
    · refine (results_tri rfl _ _ _ rfl (run_loadVar_row _ W1.heap.size 23 _ _ _ _ (two_set G43.out) Tryd.underlying23 rfl Tryd.sizeArc)).trans ?_
      rfl
    unfold BestPost
    rw [HE.out.1, HE.out.2.1, HE.out.2.2]
    exact ⟨rfl, Below.setCell (Below.setCell B3.out (Nat.le_of_lt N1.out) _) (Nat.le_of_lt N1.out) _⟩
end Go.Proofs.YtnnlbllkckakbaaDoor

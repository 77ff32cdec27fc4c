/-
  Merge of the program: the walk. Conditions: sizes; the tables that a row lists.
-/
import Derived.Test.YtoenecgjiejljaaDoorBhe
namespace Go.Proofs.YtoenecgjiejljaaDoor
open Go.RowKit
set_option linter.unusedVariables false

set_option maxRecDepth 4000 in
set_option maxHeartbeats 4000000 in
theorem isWhole_any (br n x N c : Nat) (A : Option Addr) (r : List UInt8) (w : World) (bg : Bool) (q : Bool) (hq : (!decide (N < n) && decide (r = [])) = q)
    (hg : w.heap[br]? = some (.cells #[.bool bg, .int .i64 n, .int .i64 x, .slice A N c, .string (sL r)] 111 (0, 0))) :
    Calls Tryd.prog 102 #[.pointer (some ⟨br, 0, none⟩)] w fun e w' => e = .returned (.bool q) ∧ ∃ m, w' = w.drewN m := by
  have HL := Lib.hid (lacks_any br n N c A w (blk_cell hg) (blk_cell hg))
  have HG := Lib.hid hg
  have i1 := sL_emp r
  have q1 := sL_nil (r := r)
  subst hq
  clear hg
  generalize decide (N < n) = b1 at *
  generalize decide (r = []) = b2 at *
  cases b1 <;> cases b2
  all_goals (
    go_enter Tryd.func102, Tryd.ntmps102
    go_wp2_with fail
    refine HL.out.mono ?_
    rintro e w1 ⟨rfl, m, rfl⟩
    have l4 : (w.drewN m).cell? ⟨br, 4, none⟩ = some (.string (sL r)) := blk_cell (show (w.drewN m).heap[br]? = _ from HG.out)
    generalize sL r = s at *
    go_wp2_with fail
    go_ret
    exact ⟨rfl, m, rfl⟩)
theorem read_err {t : List UInt8} {w : World} (z : ByteArray) (hz : z = ⟨#[]⟩) (hsz : t.length ≤ 9000) (hT : Tb w) (hE : rdE t ≠ 0) : Calls Tryd.prog 95 #[.string (sL t)] w fun e w' =>
    e = .returned (.tuple #[.agg #[.bool false, .int .i64 0, .int .i64 0, .slice none 0 0, .string z], .int .i64 (rdE t)]) ∧ Below w.heap.size w w' := by
  subst hz
  refine (read_any t w hsz hT).mono ?_
  rintro e w' ⟨hb, (⟨_, he⟩ | ⟨h0, _⟩)⟩
  · exact ⟨he, hb⟩
  · exact absurd h0 hE
theorem read_ok {t : List UInt8} {w : World} (hsz : t.length ≤ 9000) (hT : Tb w) (hE : rdE t = 0) : Calls Tryd.prog 95 #[.string (sL t)] w fun e w' =>
    ∃ n x : Nat, ∃ A c, e = .returned (.tuple #[.agg #[.bool true, .int .i64 n, .int .i64 x, .slice A (rdP t).length c, .string (sL (rdR t))], .int .i64 0]) ∧ (!decide ((rdP t).length < n) && decide (rdR t = [])) = wlB t ∧ Rd w' w'.heap.size A (txl (rdP t)) ∧ Below w.heap.size w w' := by
  refine (read_any t w hsz hT).mono ?_
  rintro e w' ⟨hb, (⟨h0, _⟩ | ⟨_, n, x, A, c, hn, _, he, _, hr⟩)⟩
  · exact absurd hE h0
  · refine ⟨n, x, A, c, he, ?_, hr, hb⟩
    unfold wlB
    rw [hn]
    congr 2
    rw [decide_eq_decide]
    omega
theorem mg_prog {s t : List UInt8} (h : rdE s = 0) (h2 : rdE t = 0) (h3 : wlB s = true) (h4 : wlB t = true) :
    (cmN ((rdP s).map sL) ((rdP t).map sL) = (rdP t).length → mgO s t = (s, ((rdP s).length : Int), 0)) ∧
    (cmN ((rdP s).map sL) ((rdP t).map sL) ≠ (rdP t).length → cmN ((rdP s).map sL) ((rdP t).map sL) = (rdP s).length → mgO s t = (t, ((rdP t).length : Int), 0)) ∧
    (cmN ((rdP s).map sL) ((rdP t).map sL) ≠ (rdP t).length → cmN ((rdP s).map sL) ((rdP t).map sL) ≠ (rdP s).length → mgO s t = ([], (cmN ((rdP s).map sL) ((rdP t).map sL) : Int), 7)) := by
  rw [mg_rest h h2 (by rw [h3, h4]; rfl)]
  have hcl := cm_le ((rdP s).map sL) ((rdP t).map sL)
  rw [List.length_map, List.length_map] at hcl
  generalize cmN ((rdP s).map sL) ((rdP t).map sL) = k at *
  refine ⟨fun e => ?_, fun e1 e2 => ?_, fun e1 e2 => ?_⟩
  · rw [if_neg (by omega), if_neg (by omega)]
  · rw [if_neg (by omega), if_pos (by omega)]
  · rw [if_pos (by omega)]
/-! The walk of Merge. -/
set_option maxRecDepth 8000 in
set_option maxHeartbeats 8000000 in
theorem Merge_any (s t : List UInt8) (w : World) (hs : s.length ≤ 9000) (ht : t.length ≤ 9000) (hT : Tb w) : Calls Tryd.prog 47 #[.string (sL s), .string (sL t)] w (MgPost (mgO s t) w) := by
  have HT := Lib.hid hT
  obtain ⟨z, hz⟩ : ∃ z : ByteArray, z = ⟨#[]⟩ := ⟨_, rfl⟩
  by_cases h1 : rdE s = 0
  case neg =>
    have H1 := Lib.hid (read_err z hz hs hT h1)
    rw [mg_e1 h1]
    unfold MgPost
    have z1 : (rdE s != 0) = true := by simpa using h1
    clear h1 hs ht hT hz
    generalize rdE s = E at *
    generalize sL s = s1 at *
    generalize sL t = t1 at *
    go_enter Tryd.func47, Tryd.ntmps47
    go_wp2_with fail
    refine H1.out.mono ?_
    rintro e w1 ⟨rfl, hb⟩
    obtain ⟨W2, hW2, k2, s2, b2⟩ := one_blk w1 #[.bool false, .int .i64 0, .int .i64 0, .slice none 0 0, .string z] 111
    have B2 := Lib.hid (hb.trans (b2.mono hb.size))
    clear hb b2 k2 s2
    go_wp2_with fail
    go_ret3
    exact ⟨rfl, B2.out⟩
  have H1 := Lib.hid (read_ok hs hT h1)
  by_cases h2 : rdE t = 0
  case neg =>
    have H2 := Lib.hid (fun w' hT' => read_err (w := w') z hz ht hT' h2)
    rw [mg_e2 h1 h2]
    unfold MgPost
    have z1 : (rdE t != 0) = true := by simpa using h2
    clear h1 h2 hs ht hT hz
    generalize rdE t = E at *
    go_enter Tryd.func47, Tryd.ntmps47
    go_wp2_with fail
    refine H1.out.mono ?_
    rintro e w1 ⟨n, x, A, c, rfl, hq, hr, hb⟩
    obtain ⟨W2, hW2, k2, s2, b2⟩ := one_blk w1 #[.bool true, .int .i64 n, .int .i64 x, .slice A (rdP s).length c, .string (sL (rdR s))] 111
    have B2 := Lib.hid (hb.trans (b2.mono hb.size))
    have R2 := Lib.hid (show Rd W2 W2.heap.size A (txl (rdP s)) from (hr.below b2 (Nat.le_refl _)).more b2.size)
    have T2 := Lib.hid ((HT.out.up hb).up b2)
    have K2 := Lib.hid k2
    have S2 := Lib.hid s2
    have HQ := Lib.hid hq
    clear hb b2 k2 s2 hr hq
    go_wp2_with fail
    clear hW2
    obtain ⟨g, hg⟩ : ∃ g, w1.heap.size = g := ⟨_, rfl⟩
    rw [hg] at K2 S2 ⊢
    clear hg
    refine (H2.out W2 T2.out).mono ?_
    rintro e w3 ⟨rfl, hb⟩
    obtain ⟨W4, hW4, k4, s4, b4⟩ := one_blk w3 #[.bool false, .int .i64 0, .int .i64 0, .slice none 0 0, .string z] 111
    have B4 := Lib.hid (B2.out.trans ((hb.trans (b4.mono hb.size)).mono B2.out.size))
    clear hb b4 k4 s4
    go_wp2_with fail
    go_ret3
    exact ⟨rfl, B4.out⟩
  have H2 := Lib.hid (fun w' hT' => read_ok (t := t) (w := w') ht hT' h2)
  have HM3 := Lib.hid (fun h => mg_e3 (s := s) (t := t) h1 h2 h)
  have HM := Lib.hid (fun h3 h4 => mg_prog (s := s) (t := t) h1 h2 h3 h4)
  have HC := Lib.hid (fun A A' c c' w h h' => common_any A A' c c' ((rdP s).map sL) ((rdP t).map sL) w h h' (by rw [List.length_map]; exact rd_64 s) (by rw [List.length_map]; exact rd_64 t))
  rw [List.length_map, List.length_map] at HC
  clear h1 h2 hs ht hT hz
  unfold MgPost
  go_enter Tryd.func47, Tryd.ntmps47
  go_wp2_with fail
  refine H1.out.mono ?_
  rintro e w1 ⟨n, x, A, c, rfl, hq, hr, hb⟩
  obtain ⟨W2, hW2, k2, s2, b2⟩ := one_blk w1 #[.bool true, .int .i64 n, .int .i64 x, .slice A (rdP s).length c, .string (sL (rdR s))] 111
  have B2 := Lib.hid (hb.trans (b2.mono hb.size))
  have R2 := Lib.hid (show Rd W2 W2.heap.size A (txl (rdP s)) from (hr.below b2 (Nat.le_refl _)).more b2.size)
  have T2 := Lib.hid ((HT.out.up hb).up b2)
  have K2 := Lib.hid k2
  have S2 := Lib.hid s2
  have HQ := Lib.hid hq
  clear hb b2 k2 s2 hr hq
  go_wp2_with fail
  clear hW2
  obtain ⟨g, hg⟩ : ∃ g, w1.heap.size = g := ⟨_, rfl⟩
  rw [hg] at K2 S2 ⊢
  clear hg
  refine (H2.out W2 T2.out).mono ?_
  rintro e w3 ⟨n', x', A', c', rfl, hq, hr, hb⟩
  obtain ⟨W4, hW4, k4, s4, b4⟩ := one_blk w3 #[.bool true, .int .i64 n', .int .i64 x', .slice A' (rdP t).length c', .string (sL (rdR t))] 111
  have bb := hb.trans (b4.mono hb.size)
  have B4 := Lib.hid (B2.out.trans (bb.mono B2.out.size))
  have RB := Lib.hid (show Rd W4 W4.heap.size A' (txl (rdP t)) from (hr.below b4 (Nat.le_refl _)).more b4.size)
  have RA := Lib.hid (show Rd W4 W4.heap.size A (txl (rdP s)) from (R2.out.below bb (Nat.le_refl _)).more bb.size)
  have KA := Lib.hid ((bb.block g S2.out).trans K2.out)
  have KB := Lib.hid k4
  have HQ' := Lib.hid hq
  clear hb b4 k4 s4 hr hq bb
  go_wp2_with fail
  clear hW4
  obtain ⟨g', hg'⟩ : ∃ g', w3.heap.size = g' := ⟨_, rfl⟩
  rw [hg'] at KB ⊢
  clear hg'
  by_cases w1 : wlB s = true
  case neg =>
    have w1f : wlB s = false := by simpa using w1
    have HE := Lib.hid (HM3.out (by rw [w1f]; rfl))
    have HI := Lib.hid (isWhole_any g n x (rdP s).length c A (rdR s) W4 true false (HQ.out.trans w1f) KA.out)
    refine HI.out.mono ?_
    rintro e w5 ⟨rfl, m, rfl⟩
    have B5 := Lib.hid (bdDN B4.out m)
    go_wp2_with fail
    go_ret3
    exact ⟨by rw [HE.out]; rfl, B5.out⟩
  have HI := Lib.hid (isWhole_any g n x (rdP s).length c A (rdR s) W4 true true (HQ.out.trans w1) KA.out)
  refine HI.out.mono ?_
  rintro e w5 ⟨rfl, m, rfl⟩
  have B5 := Lib.hid (bdDN B4.out m)
  go_wp2_with fail
  by_cases v1 : wlB t = true
  case neg =>
    have v1f : wlB t = false := by simpa using v1
    have HE := Lib.hid (HM3.out (by rw [w1, v1f]; rfl))
    have HJ := Lib.hid (isWhole_any g' n' x' (rdP t).length c' A' (rdR t) (W4.drewN m) true false (HQ'.out.trans v1f) (show (W4.drewN m).heap[g']? = _ from KB.out))
    refine HJ.out.mono ?_
    rintro e w6 ⟨rfl, m2, rfl⟩
    have B6 := Lib.hid (show Below w.heap.size w (W4.drewN (m + m2)) from bdDN B4.out _)
    go_wp2_with fail
    go_ret3
    exact ⟨by rw [HE.out]; rfl, B6.out⟩
  have HJ := Lib.hid (isWhole_any g' n' x' (rdP t).length c' A' (rdR t) (W4.drewN m) true true (HQ'.out.trans v1) (show (W4.drewN m).heap[g']? = _ from KB.out))
  have HO := Lib.hid (HM.out w1 v1)
  refine HJ.out.mono ?_
  rintro e w6 ⟨rfl, m2, rfl⟩
  have B6 := Lib.hid (bdDN B5.out m2)
  have RA6 := Lib.hid (show Rd ((W4.drewN m).drewN m2) ((W4.drewN m).drewN m2).heap.size A (txl (rdP s)) from RA.out)
  have RB6 := Lib.hid (show Rd ((W4.drewN m).drewN m2) ((W4.drewN m).drewN m2).heap.size A' (txl (rdP t)) from RB.out)
  have l3 : ((W4.drewN m).drewN m2).cell? ⟨g, 3, none⟩ = some (.slice A (rdP s).length c) := blk_cell (show ((W4.drewN m).drewN m2).heap[g]? = _ from KA.out)
  have l3' : ((W4.drewN m).drewN m2).cell? ⟨g', 3, none⟩ = some (.slice A' (rdP t).length c') := blk_cell (show ((W4.drewN m).drewN m2).heap[g']? = _ from KB.out)
  have KA6 := Lib.hid (show ((W4.drewN m).drewN m2).heap[g]? = _ from KA.out)
  have KB6 := Lib.hid (show ((W4.drewN m).drewN m2).heap[g']? = _ from KB.out)
  clear HI HJ HM HM3 HQ HQ' w1 v1 B5 KA KB RA RB B4
  generalize (W4.drewN m).drewN m2 = W6 at *
  generalize cmN ((rdP s).map sL) ((rdP t).map sL) = k at *
  generalize rdP s = P at *
  generalize rdP t = Q at *
  go_wp2_with fail
  refine (HC.out A A' c c' W6 RA6.out RB6.out).mono ?_
  rintro e w7 ⟨rfl, m3, rfl⟩
  have B7 := Lib.hid (bdDN B6.out m3)
  have l7 : (W6.drewN m3).cell? ⟨g, 3, none⟩ = some (.slice A P.length c) := blk_cell (show (W6.drewN m3).heap[g]? = _ from KA6.out)
  have l7' : (W6.drewN m3).cell? ⟨g', 3, none⟩ = some (.slice A' Q.length c') := blk_cell (show (W6.drewN m3).heap[g']? = _ from KB6.out)
  clear l3 l3' B6
  generalize W6.drewN m3 = W7 at *
  by_cases hk : k = Q.length
  · have HE := Lib.hid (HO.out.1 hk)
    have y1 : ((k : Int) == (Q.length : Int)) = true := by rw [hk]; simp
    have y1' : (k == Q.length) = true := by rw [hk]; simp
    clear HO hk
    go_wp2_with fail
    go_quiet (fail)
    go_wp2_with fail
    go_ret3
    exact ⟨by rw [HE.out]; rfl, bdDN B7.out _⟩
  · have y1 : ((k : Int) == (Q.length : Int)) = false := by
      rw [beq_eq_false_iff_ne]; omega
    have y1' : (k == Q.length) = false := by rw [beq_eq_false_iff_ne]; exact hk
    by_cases hk2 : k = P.length
    · have HE := Lib.hid (HO.out.2.1 hk hk2)
      have y2 : ((k : Int) == (P.length : Int)) = true := by rw [hk2]; simp
      have y2' : (k == P.length) = true := by rw [hk2]; simp
      clear HO hk hk2
      go_wp2_with fail
      go_quiet (fail)
      go_wp2_with fail
      go_ret3
      exact ⟨by rw [HE.out]; rfl, bdDN B7.out _⟩
    · have HE := Lib.hid (HO.out.2.2 hk hk2)
      have y2 : ((k : Int) == (P.length : Int)) = false := by
        rw [beq_eq_false_iff_ne]; omega
      have y2' : (k == P.length) = false := by rw [beq_eq_false_iff_ne]; exact hk2
      clear HO hk hk2
      go_wp2_with fail
      go_ret3
      exact ⟨by rw [HE.out]; rfl, B7.out⟩
end Go.Proofs.YtoenecgjiejljaaDoor

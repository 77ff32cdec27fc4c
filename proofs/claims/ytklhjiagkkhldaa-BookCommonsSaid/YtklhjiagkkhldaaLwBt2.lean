/-
  BookProofs, BookClimbs, BookChecks: the walks. Condition: the lists can be read.
-/
import Derived.Test.YtklhjiagkkhldaaBt8
import Derived.Test.YtklhjiagkkhldaaLwBt1
import Derived.Lib.QuietBelow
import Derived.BigQuiet
namespace Go.Proofs.Ytklhjiagkkhldaa
open Go.RowKit
set_option linter.unusedVariables false

theorem rd_grownB {w : World} {A : Option Addr} {xs : List Value} (h : Rd w w.heap.size A xs) (d : Nat) (os : Array Obj) : Rd (Go.Sort.grow (redrawn w d) os) (Go.Sort.grow (redrawn w d) os).heap.size A xs :=
  (h.below (below_regrown w d os) (Nat.le_refl _)).more (below_regrown w d os).size
/-- The proof that is returned is accepted for the root. -/
theorem proof_checks {l : List ByteArray} {k : Nat} {s : ByteArray} (hE : prE l (k : Int) = 0) (hd : l[k]? = some s) : cpE (rootV l) s (k : Int) (l.length : Int) (prL l (k : Int)) = 0 := by
  obtain ⟨hv, h0, h1⟩ := pr_ok hE
  obtain ⟨h64, hall⟩ := vpE_ok hv
  have hps := hall s (List.mem_of_getElem? hd)
  have hpl : prL l (k : Int) = pfL (smsL l) k := by unfold prL; rw [hE, if_pos rfl]; rfl
  have hsm := pf_sm l.length (smsL l) k (smsL_len l) (smsL_sm l)
  have hlen := pf_len l.length (smsL l) k (smsL_len l)
  have hg : gI (smsL l) k = lfS s := gI_get (by simp [smsL, hd])
  have hcl := climb_pf l.length (smsL l) k (smsL_len l) (by omega)
  rw [hg] at hcl
  have hplE : plE (k : Int) (l.length : Int) = 0 := by unfold plE; rw [if_pos (by omega), if_pos (by omega)]
  have hcb : cbE (lfS s) (k : Int) (l.length : Int) (pfL (smsL l) k) = 0 := by
    unfold cbE
    rw [if_pos hplE, if_pos (smB_iff.2 (lfS_sm s)), if_pos (smsB_iff.2 hsm), if_pos (by rw [hlen]; rfl)]
  have hrv : rootV l = rt (smsL l) := if_pos hv
  unfold cpE
  rw [hps, if_pos rfl, hpl, if_pos hcb, hrv, if_pos (smB_iff.2 (rt_sm (smsL_sm l))), if_pos]
  unfold cbV
  rw [if_pos hcb]
  exact hcl
set_option maxRecDepth 8000 in
set_option maxHeartbeats 8000000 in
theorem Proofs_walk (A : Option Addr) (c : Nat) (l : List ByteArray) (i : Int) (w : World) (hr : Rd w w.heap.size A (txts l)) (hs : Sz l) (hlc : l.length ≤ c) (hc : c ≤ maxLen) :
    Calls Try.prog 6 #[.slice A l.length c, .int .i64 i] w fun e w' => e = .returned (.bool true) ∧ Below w.heap.size w w' := by
  have hc' : c ≤ 9223372036854775807 := by unfold maxLen at hc; omega
  have hl : l.length ≤ 9223372036854775807 := by omega
  have HK := Lib.hid known_any
  have HL := Lib.hid (Long_any A c l w hr hl)
  cases hlo : longB l
  case true =>
    rw [hlo] at HL
    clear hlo
    have B0 := Lib.hid (Below.refl w.heap.size w)
    go_enter Try.func6, Try.ntmps6
    go_wp2_with fail
    refine (HL.out).mono ?_
    rintro e w' ⟨rfl, rfl⟩
    go_wp2_with fail
    refine (HK.out w).mono ?_
    rintro e w1 ⟨rfl, hb⟩
    have B1 := Lib.hid (B0.out.trans (hb.mono B0.out.size))
    clear hb
    go_wp2_with fail
    go_ret
    exact ⟨rfl, B1.out⟩
  case false =>
    rw [hlo] at HL
    have L_0 := Lib.hid hr
    have HS := Lib.hid hs
    have B0 := Lib.hid (Below.refl w.heap.size w)
    have H1 := Lib.hid (fun w hr => Proof_any A c l i w hr HS.out hl)
    have H2 := Lib.hid (fun w hr => rProof_any A c l i w hr HS.out hl)
    have H3 := Lib.hid (fun w => Depth_any i (l.length : Int) w)
    have H4 := Lib.hid (fun w => rDepth_any i (l.length : Int) w)
    have k1 : (prE l i != prE l i) = false := by simp
    have k2 : (dpV i (l.length : Int) != dpV i (l.length : Int)) = false := by simp
    have k3 : (plE i (l.length : Int) != plE i (l.length : Int)) = false := by simp
    have hqn : (prL l i).length = prN l i := pr_len l i
    have hq64 : prN l i ≤ 64 := by
      unfold prN
      split
      · rename_i h
        have := (vpE_ok (pr_ok h).1).1
        exact Nat.le_trans (dp_le _ _) this
      · omega
    clear hlo hr hs
    by_cases hE : prE l i = 0
    case neg =>
      have k4 : (prE l i != 0) = true := by simpa using hE
      have HSI := Lib.hid (fun A A' c c' w h h' => SameInts_any A A' c c' (prL l i) (prL l i) w h h' (by omega) (by omega))
      rw [hqn, show decide (prL l i = prL l i) = true from decide_eq_true rfl] at HSI
      generalize prE l i = E at *
      generalize prN l i = q at *
      generalize prL l i = Q at *
      generalize dpV i (l.length : Int) = dv at *
      generalize plE i (l.length : Int) = pe at *
      clear hE
      go_enter Try.func6, Try.ntmps6
      go_wp2_with fail
      refine (HL.out).mono ?_
      rintro e w' ⟨rfl, rfl⟩
      go_wp2_with fail
      refine (H1.out w L_0.out).mono ?_
      rintro e w1 ⟨A1, c1, rfl, hc1, hr1, hb⟩
      have P_1 := Lib.hid hr1
      clear hr1 hc1
      have B1 := Lib.hid (B0.out.trans (hb.mono B0.out.size))
      have L_1 := Lib.hid (L_0.out.upb hb)
      clear hb
      go_wp2_with fail
      refine (H2.out w1 L_1.out).mono ?_
      rintro e w2 ⟨A2, c2, rfl, hc2, hr2, hb⟩
      have Q_2 := Lib.hid hr2
      clear hr2 hc2
      have B2 := Lib.hid (B1.out.trans (hb.mono B1.out.size))
      have L_2 := Lib.hid (L_1.out.upb hb)
      have P_2 := Lib.hid (P_1.out.upb hb)
      clear hb
      go_wp2_with fail
      refine (H3.out _).mono ?_
      rintro e w' ⟨rfl, rfl⟩
      go_wp2_with fail
      refine (H4.out w2).mono ?_
      rintro e w3 ⟨rfl, hb⟩
      have B3 := Lib.hid (B2.out.trans (hb.mono B2.out.size))
      have L_3 := Lib.hid (L_2.out.upb hb)
      have P_3 := Lib.hid (P_2.out.upb hb)
      have Q_3 := Lib.hid (Q_2.out.upb hb)
      clear hb
      go_wp2_with fail
      refine (HSI.out A1 A2 c1 c2 w3 P_3.out Q_3.out).mono ?_
      rintro e w' ⟨rfl, m, rfl⟩
      have B4 := Lib.hid (bdDN B3.out m)
      go_wp2_with fail
      refine (HK.out _).mono ?_
      rintro e w9 ⟨rfl, hb⟩
      have B5 := Lib.hid (B4.out.trans (hb.mono B4.out.size))
      clear hb
      go_wp2_with fail
      go_ret
      exact ⟨rfl, B5.out⟩
    case pos =>
      obtain ⟨hv, h0, h1⟩ := pr_ok hE
      obtain ⟨k, rfl⟩ : ∃ k : Nat, i = (k : Int) := ⟨i.toNat, by omega⟩
      have h64 := (vpE_ok hv).1
      have hplE : plE (k : Int) (l.length : Int) = 0 := by unfold plE; rw [if_pos (by omega), if_pos (by omega)]
      have hdv : dpV (k : Int) (l.length : Int) = (prN l (k : Int) : Int) := by unfold dpV prN; rw [if_pos hplE, if_pos hE]; rfl
      have HCP := Lib.hid (fun s hd => proof_checks (l := l) (k := k) (s := s) hE hd)
      have HCk := Lib.hid (fun s A c w h h2 h3 h4 => CheckPage_any (rootV l) s (k : Int) (l.length : Int) A c (prL l (k : Int)) w h h2 h3 h4)
      have HRo := Lib.hid (fun w hr => Root_any A c l w hr HS.out hl)
      have HSI := Lib.hid (fun A A' c c' w h h' => SameInts_any A A' c c' (prL l (k : Int)) (prL l (k : Int)) w h h' (by omega) (by omega))
      rw [hqn, show decide (prL l (k : Int) = prL l (k : Int)) = true from decide_eq_true rfl] at HSI
      have HQN := Lib.hid hqn
      have hkl : k < l.length := by omega
      rw [hE] at H1 H2 k1
      rw [hdv, hplE] at H3 H4
      rw [hv] at HRo
      rw [hqn] at HCk
      generalize prN l (k : Int) = q at *
      generalize prL l (k : Int) = Q at *
      generalize rootV l = r at *
      have k4 : ((q : Int) != (q : Int)) = false := by simp
      have k5 : ((q : Int) == (q : Int)) = true := by simp
      have k5' : (q == q) = true := by simp
      have k4' : (q != q) = false := by simp
      clear hE hqn hdv hplE hv h0 h1 k1 k2 k3
      go_enter Try.func6, Try.ntmps6
      go_wp2_with fail
      refine (HL.out).mono ?_
      rintro e w' ⟨rfl, rfl⟩
      go_wp2_with fail
      refine (H1.out w L_0.out).mono ?_
      rintro e w1 ⟨A1, c1, rfl, hc1, hr1, hb⟩
      have P_1 := Lib.hid hr1
      have HC1 := Lib.hid hc1
      clear hr1 hc1
      have B1 := Lib.hid (B0.out.trans (hb.mono B0.out.size))
      have L_1 := Lib.hid (L_0.out.upb hb)
      clear hb
      go_wp2_with fail
      refine (H2.out w1 L_1.out).mono ?_
      rintro e w2 ⟨A2, c2, rfl, hc2, hr2, hb⟩
      have Q_2 := Lib.hid hr2
      clear hr2 hc2
      have B2 := Lib.hid (B1.out.trans (hb.mono B1.out.size))
      have L_2 := Lib.hid (L_1.out.upb hb)
      have P_2 := Lib.hid (P_1.out.upb hb)
      clear hb
      go_wp2_with fail
      refine (H3.out _).mono ?_
      rintro e w' ⟨rfl, rfl⟩
      go_wp2_with fail
      refine (H4.out w2).mono ?_
      rintro e w3 ⟨rfl, hb⟩
      have B3 := Lib.hid (B2.out.trans (hb.mono B2.out.size))
      have L_3 := Lib.hid (L_2.out.upb hb)
      have P_3 := Lib.hid (P_2.out.upb hb)
      have Q_3 := Lib.hid (Q_2.out.upb hb)
      clear hb
      go_wp2_with fail
      refine (HSI.out A1 A2 c1 c2 w3 P_3.out Q_3.out).mono ?_
      rintro e w' ⟨rfl, m, rfl⟩
      have B4 := Lib.hid (bdDN B3.out m)
      have L_4 := Lib.hid (show Rd (w3.drewN m) (w3.drewN m).heap.size A (txts l) from L_3.out)
      have P_4 := Lib.hid (show Rd (w3.drewN m) (w3.drewN m).heap.size A1 (ints Q) from P_3.out)
      generalize w3.drewN m = w4 at *
      go_wp2_with fail
      refine (HRo.out w4 L_4.out).mono ?_
      rintro e w5 ⟨rfl, hb⟩
      have B5 := Lib.hid (B4.out.trans (hb.mono B4.out.size))
      have L_5 := Lib.hid (L_4.out.upb hb)
      have P_5 := Lib.hid (P_4.out.upb hb)
      clear hb
      obtain ⟨bb, oo, s, hA, hd, hcell⟩ := L_5.out.txt k hkl
      have HCx := Lib.hid (HCk.out s A1 c1 w5 P_5.out HC1.out (by omega) (HS.out.at_ hd.out))
      rw [HCP.out s hd.out] at HCx
      subst hA
      have a0 : (0 : Int) ≤ (k : Int) := by omega
      have a1 : (k : Int) < (l.length : Int) := by omega
      go_wp2_with fail
      refine HCx.out.mono ?_
      rintro e w6 ⟨rfl, hb⟩
      have B6 := Lib.hid (B5.out.trans (hb.mono B5.out.size))
      clear hb
      go_wp2_with fail
      refine (HK.out w6).mono ?_
      rintro e w7 ⟨rfl, hb⟩
      have B7 := Lib.hid (B6.out.trans (hb.mono B6.out.size))
      clear hb
      go_wp2_with fail
      go_ret
      exact ⟨rfl, B7.out⟩
set_option maxRecDepth 8000 in
set_option maxHeartbeats 8000000 in
theorem Climbs_walk (a b d : Int) (A : Option Addr) (c : Nat) (p : List Int) (w : World) (hr : Rd w w.heap.size A (ints p)) (hlc : p.length ≤ c) (hc : c ≤ maxLen) :
    Calls Try.prog 7 #[.agg #[.int .i64 a, .int .i64 b, .int .i64 d, .slice A p.length c]] w fun e w' => e = .returned (.bool true) ∧ Below w.heap.size w w' := by
  have hl : p.length ≤ 9223372036854775807 := by unfold maxLen at hc; omega
  have HK := Lib.hid known_any
  have HM := Lib.hid (fun w => many_any A p.length c w hl)
  obtain ⟨W, hW, k0, s0, b0⟩ := one_blk w #[.int .i64 a, .int .i64 b, .int .i64 d, .slice A p.length c] 41
  have x_0 : W.cell? ⟨w.heap.size, 0, none⟩ = some (.int .i64 a) := by rw [blk_cell k0]; rfl
  have y_0 : W.cell? ⟨w.heap.size, 1, none⟩ = some (.int .i64 b) := by rw [blk_cell k0]; rfl
  have u_0 : W.cell? ⟨w.heap.size, 2, none⟩ = some (.int .i64 d) := by rw [blk_cell k0]; rfl
  have v_0 : W.cell? ⟨w.heap.size, 3, none⟩ = some (.slice A p.length c) := by rw [blk_cell k0]; rfl
  have z_0 : w.heap.size < W.heap.size := s0
  have B0 := Lib.hid b0
  have P_0 := Lib.hid (hr.upb b0)
  clear k0 s0 b0 hr
  by_cases hm : 100 < p.length
  case pos =>
    rw [decide_eq_true hm] at HM
    clear hm
    go_enter Try.func7, Try.ntmps7
    go_wp2_with fail
    refine (HM.out _).mono ?_
    rintro e w' ⟨rfl, rfl⟩
    go_wp2_with fail
    refine (HK.out W).mono ?_
    rintro e w1 ⟨rfl, hb⟩
    have B1 := Lib.hid (B0.out.trans (hb.mono B0.out.size))
    have P_1 := Lib.hid (P_0.out.upb hb)
    have x_1 := cellKeep x_0 hb z_0
    have y_1 := cellKeep y_0 hb z_0
    have u_1 := cellKeep u_0 hb z_0
    have v_1 := cellKeep v_0 hb z_0
    have z_1 : w.heap.size < w1.heap.size := Nat.lt_of_lt_of_le z_0 hb.size
    clear x_0 y_0 u_0 v_0 z_0
    clear hb
    go_wp2_with fail
    go_ret
    exact ⟨rfl, B1.out⟩
  case neg =>
    rw [decide_eq_false hm] at HM
    have H1 := Lib.hid (fun w h => Climb_any a b d A c p w h hlc hl)
    have H2 := Lib.hid (fun w h => rClimb_any a b d A c p w h hlc hl)
    generalize cbV a b d p = r at *
    generalize cbE a b d p = E at *
    have k1 : (r == r) = true := by simp
    have k2 : (E == E) = true := by simp
    clear hm
    go_enter Try.func7, Try.ntmps7
    go_wp2_with fail
    refine (HM.out _).mono ?_
    rintro e w' ⟨rfl, rfl⟩
    go_wp2_with fail
    refine (H1.out W P_0.out).mono ?_
    rintro e w1 ⟨rfl, hb⟩
    have B1 := Lib.hid (B0.out.trans (hb.mono B0.out.size))
    have P_1 := Lib.hid (P_0.out.upb hb)
    have x_1 := cellKeep x_0 hb z_0
    have y_1 := cellKeep y_0 hb z_0
    have u_1 := cellKeep u_0 hb z_0
    have v_1 := cellKeep v_0 hb z_0
    have z_1 : w.heap.size < w1.heap.size := Nat.lt_of_lt_of_le z_0 hb.size
    clear x_0 y_0 u_0 v_0 z_0
    clear hb
    go_wp2_with fail
    refine (H2.out w1 P_1.out).mono ?_
    rintro e w2 ⟨rfl, hb⟩
    have B2 := Lib.hid (B1.out.trans (hb.mono B1.out.size))
    have P_2 := Lib.hid (P_1.out.upb hb)
    have x_2 := cellKeep x_1 hb z_1
    have y_2 := cellKeep y_1 hb z_1
    have u_2 := cellKeep u_1 hb z_1
    have v_2 := cellKeep v_1 hb z_1
    have z_2 : w.heap.size < w2.heap.size := Nat.lt_of_lt_of_le z_1 hb.size
    clear x_1 y_1 u_1 v_1 z_1
    clear hb
    go_wp2_with fail
    refine (HK.out w2).mono ?_
    rintro e w3 ⟨rfl, hb⟩
    have B3 := Lib.hid (B2.out.trans (hb.mono B2.out.size))
    have P_3 := Lib.hid (P_2.out.upb hb)
    have x_3 := cellKeep x_2 hb z_2
    have y_3 := cellKeep y_2 hb z_2
    have u_3 := cellKeep u_2 hb z_2
    have v_3 := cellKeep v_2 hb z_2
    have z_3 : w.heap.size < w3.heap.size := Nat.lt_of_lt_of_le z_2 hb.size
    clear x_2 y_2 u_2 v_2 z_2
    clear hb
    go_wp2_with fail
    go_ret
    exact ⟨rfl, B3.out⟩
set_option maxRecDepth 8000 in
set_option maxHeartbeats 8000000 in
theorem Checks_walk (root : Int) (s : ByteArray) (a b d : Int) (A : Option Addr) (c : Nat) (p : List Int) (w : World) (hr : Rd w w.heap.size A (ints p)) (hlc : p.length ≤ c) (hc : c ≤ maxLen) (hs : s.size ≤ 9223372036854775807) :
    Calls Try.prog 8 #[.int .i64 root, .string s, .agg #[.int .i64 a, .int .i64 b, .int .i64 d, .slice A p.length c]] w fun e w' => e = .returned (.bool true) ∧ Below w.heap.size w w' := by
  have hl : p.length ≤ 9223372036854775807 := by unfold maxLen at hc; omega
  have HK := Lib.hid known_any
  have HM := Lib.hid (fun w => many_any A p.length c w hl)
  obtain ⟨W, hW, k0, s0, b0⟩ := one_blk w #[.int .i64 a, .int .i64 b, .int .i64 d, .slice A p.length c] 41
  have x_0 : W.cell? ⟨w.heap.size, 0, none⟩ = some (.int .i64 a) := by rw [blk_cell k0]; rfl
  have y_0 : W.cell? ⟨w.heap.size, 1, none⟩ = some (.int .i64 b) := by rw [blk_cell k0]; rfl
  have u_0 : W.cell? ⟨w.heap.size, 2, none⟩ = some (.int .i64 d) := by rw [blk_cell k0]; rfl
  have v_0 : W.cell? ⟨w.heap.size, 3, none⟩ = some (.slice A p.length c) := by rw [blk_cell k0]; rfl
  have z_0 : w.heap.size < W.heap.size := s0
  have B0 := Lib.hid b0
  have P_0 := Lib.hid (hr.upb b0)
  clear k0 s0 b0 hr
  by_cases hm : 100 < p.length
  case pos =>
    rw [decide_eq_true hm] at HM
    clear hm
    go_enter Try.func8, Try.ntmps8
    go_wp2_with fail
    refine (HM.out _).mono ?_
    rintro e w' ⟨rfl, rfl⟩
    go_wp2_with fail
    refine (HK.out W).mono ?_
    rintro e w1 ⟨rfl, hb⟩
    have B1 := Lib.hid (B0.out.trans (hb.mono B0.out.size))
    have P_1 := Lib.hid (P_0.out.upb hb)
    have x_1 := cellKeep x_0 hb z_0
    have y_1 := cellKeep y_0 hb z_0
    have u_1 := cellKeep u_0 hb z_0
    have v_1 := cellKeep v_0 hb z_0
    have z_1 : w.heap.size < w1.heap.size := Nat.lt_of_lt_of_le z_0 hb.size
    clear x_0 y_0 u_0 v_0 z_0
    clear hb
    go_wp2_with fail
    go_ret
    exact ⟨rfl, B1.out⟩
  case neg =>
    rw [decide_eq_false hm] at HM
    by_cases h1 : 1000 < s.size
    case pos =>
      have e1 : decide ((1000 : Int) < (s.size : Int)) = true := decide_eq_true (by omega)
      have e2 : decide (1000 < s.size) = true := decide_eq_true h1
      clear hm h1
      go_enter Try.func8, Try.ntmps8
      go_wp2_with fail
      refine (HM.out _).mono ?_
      rintro e w' ⟨rfl, rfl⟩
      go_wp2_with fail
      refine (HK.out W).mono ?_
      rintro e w1 ⟨rfl, hb⟩
      have B1 := Lib.hid (B0.out.trans (hb.mono B0.out.size))
      have P_1 := Lib.hid (P_0.out.upb hb)
      have x_1 := cellKeep x_0 hb z_0
      have y_1 := cellKeep y_0 hb z_0
      have u_1 := cellKeep u_0 hb z_0
      have v_1 := cellKeep v_0 hb z_0
      have z_1 : w.heap.size < w1.heap.size := Nat.lt_of_lt_of_le z_0 hb.size
      clear x_0 y_0 u_0 v_0 z_0
      clear hb
      go_wp2_with fail
      go_ret
      exact ⟨rfl, B1.out⟩
    case neg =>
      have e1 : decide ((1000 : Int) < (s.size : Int)) = false := decide_eq_false (by omega)
      have e2 : decide (1000 < s.size) = false := decide_eq_false h1
      have H1 := Lib.hid (fun w h => CheckPage_any root s b d A c p w h hlc hl hs)
      have H2 := Lib.hid (fun w h => rCheckPage_any root s b d A c p w h hlc hl hs)
      generalize cpE root s b d p = E at *
      have k1 : (E == E) = true := by simp
      have g0 := fun dd os => cell_regrown x_0 dd os
      have g1 := fun dd os => cell_regrown y_0 dd os
      have g2 := fun dd os => cell_regrown u_0 dd os
      have g3 := fun dd os => cell_regrown v_0 dd os
      clear hm h1
      go_enter Try.func8, Try.ntmps8
      go_wp2_with fail
      refine (HM.out _).mono ?_
      rintro e w' ⟨rfl, rfl⟩
      go_wp2_with fail
      refine wp_region_quiet_below (by kernel_rfl) (by kernel_rfl) ?_
      repeat (go_big_quiet_step (first | (with_reducible exact Calls.regrown_of (H1.out _ (rd_grownB P_0.out _ _))) | (with_reducible exact Calls.regrown_of (H2.out _ (rd_grownB P_0.out _ _))) | (with_reducible exact Calls.regrown_of (HK.out _))))
      refine wpQuiet_nil ?_
      intro _ hw'
      obtain ⟨⟨dq, osq⟩, hw''⟩ := hw'
      subst hw''
      have B1 := Lib.hid (B0.out.trans ((below_regrown W dq osq).mono B0.out.size))
      go_wp2_with fail
      go_ret
      exact ⟨rfl, B1.out⟩
end Go.Proofs.Ytklhjiagkkhldaa

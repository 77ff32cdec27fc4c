/-
  BookGrowths, BookUnfolds, BookCommons: the walks. Condition: the lists can be read.
-/
import Derived.Test.YtklhjiagkkhldaaBtd
import Derived.Test.YtklhjiagkkhldaaLwBt2
namespace Go.Proofs.Ytklhjiagkkhldaa
open Go.RowKit
set_option linter.unusedVariables false

theorem gw_checks {l : List ByteArray} {k : Nat} (hE : gwE l (k : Int) = 0) : ufE (k : Int) (l.length : Int) (rootV (l.take k)) (gwL l (k : Int)) = 0 ∧ ufV (k : Int) (l.length : Int) (rootV (l.take k)) (gwL l (k : Int)) = (rootV (l.take k), rootV l) ∧ cgE (rootV (l.take k)) (rootV l) (k : Int) (l.length : Int) (gwL l (k : Int)) = 0 := by
  obtain ⟨hv, h0, h1⟩ := gw_ok hE
  obtain ⟨h64, hall⟩ := vpE_ok hv
  have hgl : gwL l (k : Int) = grL (smsL l) k true := by unfold gwL; rw [hE, if_pos rfl]; rfl
  have hvt := vpE_take hv k
  have hr1 : rootV (l.take k) = rt ((smsL l).take k) := by unfold rootV; rw [if_pos hvt, smsL_take]
  have hr2 : rootV l = rt (smsL l) := if_pos hv
  have s1 : Sm1 (rootV (l.take k)) := by rw [hr1]; exact rt_sm ((smsL_sm l).take k)
  have s2 : Sm1 (rootV l) := by rw [hr2]; exact rt_sm (smsL_sm l)
  have hlen : (gwL l (k : Int)).length = gsN ((k : Int)).toNat ((l.length : Int)).toNat true := by rw [hgl, gr_len l.length (smsL l) k true (smsL_len l)]; rfl
  have hu : ufE (k : Int) (l.length : Int) (rootV (l.take k)) (gwL l (k : Int)) = 0 := uf_of ⟨by omega, by omega, by omega⟩ s1 (by rw [hgl]; exact gr_sm l.length (smsL l) k true (smsL_len l) (smsL_sm l)) hlen
  have hV : ufV (k : Int) (l.length : Int) (rootV (l.take k)) (gwL l (k : Int)) = (rootV (l.take k), rootV l) := by
    unfold ufV
    rw [if_pos hu, hgl]
    have := un_grow l.length (smsL l) k true (rootV (l.take k)) (smsL_len l) (by omega) (by omega) (fun _ => hr1)
    rw [← hr1, ← hr2] at this
    exact this
  refine ⟨hu, hV, ?_⟩
  unfold cgE
  rw [if_pos hu, if_pos (smB_iff.2 s2), hV, if_pos ⟨rfl, rfl⟩]
set_option maxRecDepth 8000 in
set_option maxHeartbeats 8000000 in
theorem Growths_walk (A : Option Addr) (c : Nat) (l : List ByteArray) (i : Int) (w : World) (hr : Rd w w.heap.size A (txts l)) (hs : Sz l) (hlc : l.length ≤ c) (hc : c ≤ maxLen) :
    Calls Try.prog 9 #[.slice A l.length c, .int .i64 i] w fun e w' => e = .returned (.bool true) ∧ Below w.heap.size w w' := by
  have hc' : c ≤ 9223372036854775807 := by unfold maxLen at hc; omega
  have hl : l.length ≤ 9223372036854775807 := by omega
  have HK := Lib.hid known_any
  have HL := Lib.hid (Long_any A c l w hr hl)
  cases hlo : longB l
  case true =>
    rw [hlo] at HL
    clear hlo
    have B0 := Lib.hid (Below.refl w.heap.size w)
    go_enter Try.func9, Try.ntmps9
    go_wp2_with fail
    refine (HL.out).mono ?_
    rintro e w' ⟨rfl, rfl⟩
    go_wp2_with fail
    refine (HK.out w).mono ?_
    rintro e w1 ⟨rfl, hb⟩
    have B1 := Lib.hid (B0.out.trans (hb.mono B0.out.size))
    clear hb
    go_wp2_with fail
    go_ret
    exact ⟨rfl, B1.out⟩
  case false =>
    rw [hlo] at HL
    have L_0 := Lib.hid hr
    have HS := Lib.hid hs
    have B0 := Lib.hid (Below.refl w.heap.size w)
    have H1 := Lib.hid (fun w hr => Growth_any A c l i w hr HS.out hl)
    have H2 := Lib.hid (fun w hr => rGrowth_any A c l i w hr HS.out hl)
    have k1 : (gwE l i != gwE l i) = false := by simp
    have hqn : (gwL l i).length = gwN l i := gw_len l i
    have hq64 : gwN l i ≤ 65 := by
      unfold gwN
      split
      · rename_i h
        have := (vpE_ok (gw_ok h).1).1
        exact Nat.le_trans (gs_le _ _ _) (by omega)
      · omega
    have HSI := Lib.hid (fun A A' c c' w h h' => SameInts_any A A' c c' (gwL l i) (gwL l i) w h h' (by omega) (by omega))
    rw [hqn, show decide (gwL l i = gwL l i) = true from decide_eq_true rfl] at HSI
    have hr' := hr
    clear hlo hr hs
    by_cases hE : gwE l i = 0
    case neg =>
      have k4 : (gwE l i != 0) = true := by simpa using hE
      generalize gwE l i = E at *
      generalize gwN l i = q at *
      generalize gwL l i = Q at *
      clear hE hr'
      go_enter Try.func9, Try.ntmps9
      go_wp2_with fail
      refine (HL.out).mono ?_
      rintro e w' ⟨rfl, rfl⟩
      go_wp2_with fail
      refine (H1.out w L_0.out).mono ?_
      rintro e w1 ⟨A1, c1, rfl, hc1, hr1, hb⟩
      have P_1 := Lib.hid hr1
      have HC1 := Lib.hid hc1
      clear hr1 hc1
      have B1 := Lib.hid (B0.out.trans (hb.mono B0.out.size))
      have L_1 := Lib.hid (L_0.out.upb hb)
      clear hb
      go_wp2_with fail
      refine (H2.out w1 L_1.out).mono ?_
      rintro e w2 ⟨A2, c2, rfl, hc2, hr2, hb⟩
      have Q_2 := Lib.hid hr2
      clear hr2 hc2
      have B2 := Lib.hid (B1.out.trans (hb.mono B1.out.size))
      have L_2 := Lib.hid (L_1.out.upb hb)
      have P_2 := Lib.hid (P_1.out.upb hb)
      clear hb
      go_wp2_with fail
      refine (HSI.out A1 A2 c1 c2 w2 P_2.out Q_2.out).mono ?_
      rintro e w' ⟨rfl, m, rfl⟩
      have B4 := Lib.hid (bdDN B2.out m)
      go_wp2_with fail
      refine (HK.out _).mono ?_
      rintro e w9 ⟨rfl, hb⟩
      have B5 := Lib.hid (B4.out.trans (hb.mono B4.out.size))
      clear hb
      go_wp2_with fail
      go_ret
      exact ⟨rfl, B5.out⟩
    case pos =>
      obtain ⟨hv, h0, h1⟩ := gw_ok hE
      obtain ⟨k, rfl⟩ : ∃ k : Nat, i = (k : Int) := ⟨i.toNat, by omega⟩
      have h64 := (vpE_ok hv).1
      obtain ⟨hu, hV, hcg⟩ := gw_checks hE
      have hkl : k ≤ l.length := by omega
      obtain ⟨b, o, hA⟩ := hr'.somet (by omega)
      subst hA
      have HR1 := Lib.hid (fun w hr => Root_at (n := k) (some ⟨b, o, none⟩) k (l.take k) w (by rw [List.length_take]; omega) hr (HS.out.take _) (by omega))
      have HR2 := Lib.hid (fun w hr => Root_any (some ⟨b, o, none⟩) c l w hr HS.out hl)
      have HUf := Lib.hid (fun A c w h h2 h3 => Unfold_any (k : Int) (l.length : Int) (rootV (l.take k)) A c (gwL l (k : Int)) w h h2 h3)
      have HCg := Lib.hid (fun A c w h h2 h3 => CheckGrowth_any (rootV (l.take k)) (rootV l) (k : Int) (l.length : Int) A c (gwL l (k : Int)) w h h2 h3)
      rw [hV, hu, hqn] at HUf
      rw [hcg, hqn] at HCg
      rw [vpE_take hv k] at HR1
      rw [hv] at HR2
      rw [hE] at H1 H2 k1
      have HRt := Lib.hid (fun w (h : Rd w w.heap.size (some ⟨b, o, none⟩) (txts l)) => (show Rd w w.heap.size (some ⟨b, o, none⟩) (txts (l.take k)) by have := h.take k; rw [txts_take] at this; exact this))
      generalize gwN l (k : Int) = q at *
      generalize gwL l (k : Int) = Q at *
      generalize rootV (l.take k) = r1 at *
      generalize rootV l = r2 at *
      have k2 : (r1 == r1) = true := by simp
      have k3 : (r2 == r2) = true := by simp
      have b0 : (0 : Int) ≤ (k : Int) := by omega
      have b1 : (k : Int) ≤ (c : Int) := by omega
      have b3 : k ≤ c := by omega
      clear hE hqn hv h0 h1 hu hV hcg hr'
      go_enter Try.func9, Try.ntmps9
      go_wp2_with fail
      refine (HL.out).mono ?_
      rintro e w' ⟨rfl, rfl⟩
      go_wp2_with fail
      refine (H1.out w L_0.out).mono ?_
      rintro e w1 ⟨A1, c1, rfl, hc1, hr1, hb⟩
      have P_1 := Lib.hid hr1
      have HC1 := Lib.hid hc1
      clear hr1 hc1
      have B1 := Lib.hid (B0.out.trans (hb.mono B0.out.size))
      have L_1 := Lib.hid (L_0.out.upb hb)
      clear hb
      go_wp2_with fail
      refine (H2.out w1 L_1.out).mono ?_
      rintro e w2 ⟨A2, c2, rfl, hc2, hr2, hb⟩
      have Q_2 := Lib.hid hr2
      clear hr2 hc2
      have B2 := Lib.hid (B1.out.trans (hb.mono B1.out.size))
      have L_2 := Lib.hid (L_1.out.upb hb)
      have P_2 := Lib.hid (P_1.out.upb hb)
      clear hb
      go_wp2_with fail
      refine (HSI.out A1 A2 c1 c2 w2 P_2.out Q_2.out).mono ?_
      rintro e w' ⟨rfl, m, rfl⟩
      have B4 := Lib.hid (bdDN B2.out m)
      have L_4 := Lib.hid (show Rd (w2.drewN m) (w2.drewN m).heap.size (some ⟨b, o, none⟩) (txts l) from L_2.out)
      have P_4 := Lib.hid (show Rd (w2.drewN m) (w2.drewN m).heap.size A1 (ints Q) from P_2.out)
      generalize w2.drewN m = w4 at *
      go_wp2_with fail
      refine (HR1.out w4 (HRt.out w4 L_4.out)).mono ?_
      rintro e w5 ⟨rfl, hb⟩
      have B5 := Lib.hid (B4.out.trans (hb.mono B4.out.size))
      have L_5 := Lib.hid (L_4.out.upb hb)
      have P_5 := Lib.hid (P_4.out.upb hb)
      clear hb
      go_wp2_with fail
      refine (HR2.out w5 L_5.out).mono ?_
      rintro e w6 ⟨rfl, hb⟩
      have B6 := Lib.hid (B5.out.trans (hb.mono B5.out.size))
      have L_6 := Lib.hid (L_5.out.upb hb)
      have P_6 := Lib.hid (P_5.out.upb hb)
      clear hb
      go_wp2_with fail
      refine (HUf.out A1 c1 w6 P_6.out HC1.out (by omega)).mono ?_
      rintro e w7 ⟨rfl, hb⟩
      have B7 := Lib.hid (B6.out.trans (hb.mono B6.out.size))
      have L_7 := Lib.hid (L_6.out.upb hb)
      have P_7 := Lib.hid (P_6.out.upb hb)
      clear hb
      go_wp2_with fail
      refine (HCg.out A1 c1 w7 P_7.out HC1.out (by omega)).mono ?_
      rintro e w8 ⟨rfl, hb⟩
      have B8 := Lib.hid (B7.out.trans (hb.mono B7.out.size))
      have L_8 := Lib.hid (L_7.out.upb hb)
      have P_8 := Lib.hid (P_7.out.upb hb)
      clear hb
      go_wp2_with fail
      refine (HK.out w8).mono ?_
      rintro e w9 ⟨rfl, hb⟩
      have B9 := Lib.hid (B8.out.trans (hb.mono B8.out.size))
      have L_9 := Lib.hid (L_8.out.upb hb)
      have P_9 := Lib.hid (P_8.out.upb hb)
      clear hb
      go_wp2_with fail
      go_ret
      exact ⟨rfl, B9.out⟩
set_option maxRecDepth 8000 in
set_option maxHeartbeats 8000000 in
theorem Unfolds_walk (a b d f : Int) (A : Option Addr) (c : Nat) (p : List Int) (w : World) (hr : Rd w w.heap.size A (ints p)) (hlc : p.length ≤ c) (hc : c ≤ maxLen) :
    Calls Try.prog 10 #[.agg #[.int .i64 a, .int .i64 b, .int .i64 d, .int .i64 f, .slice A p.length c]] w fun e w' => e = .returned (.bool true) ∧ Below w.heap.size w w' := by
  have hl : p.length ≤ 9223372036854775807 := by unfold maxLen at hc; omega
  have HK := Lib.hid known_any
  have HM := Lib.hid (fun w => many_any A p.length c w hl)
  obtain ⟨W, hW, k0, s0, b0⟩ := one_blk w #[.int .i64 a, .int .i64 b, .int .i64 d, .int .i64 f, .slice A p.length c] 50
  have x_0 : W.cell? ⟨w.heap.size, 0, none⟩ = some (.int .i64 a) := by rw [blk_cell k0]; rfl
  have y_0 : W.cell? ⟨w.heap.size, 1, none⟩ = some (.int .i64 b) := by rw [blk_cell k0]; rfl
  have u_0 : W.cell? ⟨w.heap.size, 2, none⟩ = some (.int .i64 d) := by rw [blk_cell k0]; rfl
  have t_0 : W.cell? ⟨w.heap.size, 3, none⟩ = some (.int .i64 f) := by rw [blk_cell k0]; rfl
  have v_0 : W.cell? ⟨w.heap.size, 4, none⟩ = some (.slice A p.length c) := by rw [blk_cell k0]; rfl
  have z_0 : w.heap.size < W.heap.size := s0
  have B0 := Lib.hid b0
  have P_0 := Lib.hid (hr.upb b0)
  clear k0 s0 b0 hr
  by_cases hm : 100 < p.length
  case pos =>
    rw [decide_eq_true hm] at HM
    clear hm
    go_enter Try.func10, Try.ntmps10
    go_wp2_with fail
    refine (HM.out _).mono ?_
    rintro e w' ⟨rfl, rfl⟩
    go_wp2_with fail
    refine (HK.out W).mono ?_
    rintro e w1 ⟨rfl, hb⟩
    have B1 := Lib.hid (B0.out.trans (hb.mono B0.out.size))
    have P_1 := Lib.hid (P_0.out.upb hb)
    have x_1 := cellKeep x_0 hb z_0
    have y_1 := cellKeep y_0 hb z_0
    have u_1 := cellKeep u_0 hb z_0
    have t_1 := cellKeep t_0 hb z_0
    have v_1 := cellKeep v_0 hb z_0
    have z_1 : w.heap.size < w1.heap.size := Nat.lt_of_lt_of_le z_0 hb.size
    clear x_0 y_0 u_0 t_0 v_0 z_0
    clear hb
    go_wp2_with fail
    go_ret
    exact ⟨rfl, B1.out⟩
  case neg =>
    rw [decide_eq_false hm] at HM
    have H1 := Lib.hid (fun w h => Unfold_any d f a A c p w h hlc hl)
    have H2 := Lib.hid (fun w h => rUnfold_any d f a A c p w h hlc hl)
    have H3 := Lib.hid (fun w h => CheckGrowth_any a b d f A c p w h hlc hl)
    have H4 := Lib.hid (fun w h => rCheckGrowth_any a b d f A c p w h hlc hl)
    generalize cgE a b d f p = G at *
    generalize ufE d f a p = E at *
    generalize ufV d f a p = V at *
    obtain ⟨y, z⟩ := V
    simp only at H1 H2
    have k1 : (y == y) = true := by simp
    have k2 : (z == z) = true := by simp
    have k3 : (E == E) = true := by simp
    have k4 : (G == G) = true := by simp
    clear hm
    go_enter Try.func10, Try.ntmps10
    go_wp2_with fail
    refine (HM.out _).mono ?_
    rintro e w' ⟨rfl, rfl⟩
    go_wp2_with fail
    refine (H1.out W P_0.out).mono ?_
    rintro e w1 ⟨rfl, hb⟩
    have B1 := Lib.hid (B0.out.trans (hb.mono B0.out.size))
    have P_1 := Lib.hid (P_0.out.upb hb)
    have x_1 := cellKeep x_0 hb z_0
    have y_1 := cellKeep y_0 hb z_0
    have u_1 := cellKeep u_0 hb z_0
    have t_1 := cellKeep t_0 hb z_0
    have v_1 := cellKeep v_0 hb z_0
    have z_1 : w.heap.size < w1.heap.size := Nat.lt_of_lt_of_le z_0 hb.size
    clear x_0 y_0 u_0 t_0 v_0 z_0
    clear hb
    go_wp2_with fail
    refine (H2.out w1 P_1.out).mono ?_
    rintro e w2 ⟨rfl, hb⟩
    have B2 := Lib.hid (B1.out.trans (hb.mono B1.out.size))
    have P_2 := Lib.hid (P_1.out.upb hb)
    have x_2 := cellKeep x_1 hb z_1
    have y_2 := cellKeep y_1 hb z_1
    have u_2 := cellKeep u_1 hb z_1
    have t_2 := cellKeep t_1 hb z_1
    have v_2 := cellKeep v_1 hb z_1
    have z_2 : w.heap.size < w2.heap.size := Nat.lt_of_lt_of_le z_1 hb.size
    clear x_1 y_1 u_1 t_1 v_1 z_1
    clear hb
    have g0 := fun dd os => cell_regrown x_2 dd os
    have g1 := fun dd os => cell_regrown y_2 dd os
    have g2 := fun dd os => cell_regrown u_2 dd os
    have g3 := fun dd os => cell_regrown t_2 dd os
    have g4 := fun dd os => cell_regrown v_2 dd os
    go_wp2_with fail
    refine wp_region_quiet_below (by kernel_rfl) (by kernel_rfl) ?_
    repeat (go_big_quiet_step (first | (with_reducible exact Calls.regrown_of (H3.out _ (rd_grownB P_2.out _ _))) | (with_reducible exact Calls.regrown_of (H4.out _ (rd_grownB P_2.out _ _))) | (with_reducible exact Calls.regrown_of (HK.out _))))
    refine wpQuiet_nil ?_
    intro _ hw'
    obtain ⟨⟨dq, osq⟩, hw''⟩ := hw'
    subst hw''
    have B3 := Lib.hid (B2.out.trans ((below_regrown w2 dq osq).mono B2.out.size))
    go_wp2_with fail
    go_ret
    exact ⟨rfl, B3.out⟩
set_option maxRecDepth 8000 in
set_option maxHeartbeats 8000000 in
theorem Commons_walk (A A' : Option Addr) (c c' : Nat) (a b : List ByteArray) (w : World) (hr : Rd w w.heap.size A (txts a)) (hs : Sz a) (hlc : a.length ≤ c) (hc : c ≤ maxLen) (hr' : Rd w w.heap.size A' (txts b)) (hs' : Sz b) (hlc' : b.length ≤ c') (hc' : c' ≤ maxLen) :
    Calls Try.prog 11 #[.slice A a.length c, .slice A' b.length c'] w fun e w' => e = .returned (.bool true) ∧ Below w.heap.size w w' := by
  have hcc : c ≤ 9223372036854775807 := by unfold maxLen at hc; omega
  have hcc' : c' ≤ 9223372036854775807 := by unfold maxLen at hc'; omega
  have hl : a.length ≤ 9223372036854775807 := by omega
  have hl' : b.length ≤ 9223372036854775807 := by omega
  have HK := Lib.hid known_any
  have HL := Lib.hid (Long_any A c a w hr hl)
  have HL' := Lib.hid (Long_any A' c' b w hr' hl')
  cases hlo : longB a
  case true =>
    rw [hlo] at HL
    clear hlo
    have B0 := Lib.hid (Below.refl w.heap.size w)
    go_enter Try.func11, Try.ntmps11
    go_wp2_with fail
    refine (HL.out).mono ?_
    rintro e w' ⟨rfl, rfl⟩
    go_wp2_with fail
    refine (HK.out w).mono ?_
    rintro e w1 ⟨rfl, hb⟩
    have B1 := Lib.hid (B0.out.trans (hb.mono B0.out.size))
    clear hb
    go_wp2_with fail
    go_ret
    exact ⟨rfl, B1.out⟩
  rw [hlo] at HL
  cases hlo' : longB b
  case true =>
    rw [hlo'] at HL'
    clear hlo hlo'
    have B0 := Lib.hid (Below.refl w.heap.size w)
    go_enter Try.func11, Try.ntmps11
    go_wp2_with fail
    refine (HL.out).mono ?_
    rintro e w' ⟨rfl, rfl⟩
    go_wp2_with fail
    refine (HL'.out).mono ?_
    rintro e w' ⟨rfl, rfl⟩
    go_wp2_with fail
    refine (HK.out w).mono ?_
    rintro e w1 ⟨rfl, hb⟩
    have B1 := Lib.hid (B0.out.trans (hb.mono B0.out.size))
    clear hb
    go_wp2_with fail
    go_ret
    exact ⟨rfl, B1.out⟩
  rw [hlo'] at HL'
  have L_0 := Lib.hid hr
  have M_0 := Lib.hid hr'
  have HS := Lib.hid hs
  have HS' := Lib.hid hs'
  have B0 := Lib.hid (Below.refl w.heap.size w)
  have H1 := Lib.hid (fun w h h' => Common_any A A' c c' a b w h h' HS.out HS'.out hl hl')
  have H2 := Lib.hid (fun w h h' => rCommon_any A A' c c' a b w h h' HS.out HS'.out hl hl')
  have k1 : (coV a b != coV a b) = false := by simp
  have k2 : (coE a b != coE a b) = false := by simp
  clear hlo hlo' hs hs'
  by_cases hE : coE a b = 0
  case neg =>
    have k4 : (coE a b != 0) = true := by simpa using hE
    generalize coE a b = E at *
    generalize coV a b = V at *
    clear hE hr hr'
    go_enter Try.func11, Try.ntmps11
    go_wp2_with fail
    refine (HL.out).mono ?_
    rintro e w' ⟨rfl, rfl⟩
    go_wp2_with fail
    refine (HL'.out).mono ?_
    rintro e w' ⟨rfl, rfl⟩
    go_wp2_with fail
    refine (H1.out w L_0.out M_0.out).mono ?_
    rintro e w1 ⟨rfl, hb⟩
    have B1 := Lib.hid (B0.out.trans (hb.mono B0.out.size))
    have L_1 := Lib.hid (L_0.out.upb hb)
    have M_1 := Lib.hid (M_0.out.upb hb)
    clear hb
    go_wp2_with fail
    refine (H2.out w1 L_1.out M_1.out).mono ?_
    rintro e w2 ⟨rfl, hb⟩
    have B2 := Lib.hid (B1.out.trans (hb.mono B1.out.size))
    have L_2 := Lib.hid (L_1.out.upb hb)
    have M_2 := Lib.hid (M_1.out.upb hb)
    clear hb
    go_wp2_with fail
    refine (HK.out w2).mono ?_
    rintro e w3 ⟨rfl, hb⟩
    have B3 := Lib.hid (B2.out.trans (hb.mono B2.out.size))
    have L_3 := Lib.hid (L_2.out.upb hb)
    have M_3 := Lib.hid (M_2.out.upb hb)
    clear hb
    go_wp2_with fail
    go_ret
    exact ⟨rfl, B3.out⟩
  case pos =>
    have hv : coV a b = (cmN a b : Int) := if_pos hE
    obtain ⟨va, vb⟩ := co_ok hE
    obtain ⟨hla, hlb⟩ := cm_le a b
    have htk := cm_take a b
    have HRt := Lib.hid (fun w (h : Rd w w.heap.size A (txts a)) => (show Rd w w.heap.size A (txts (a.take (cmN a b))) by have := h.take (cmN a b); rw [txts_take] at this; exact this))
    have HRt' := Lib.hid (fun w (h : Rd w w.heap.size A' (txts b)) => (show Rd w w.heap.size A' (txts (b.take (cmN a b))) by have := h.take (cmN a b); rw [txts_take] at this; exact this))
    have HR1 := Lib.hid (fun w hr => Root_at (n := cmN a b) A (cmN a b) (a.take (cmN a b)) w (by rw [List.length_take]; omega) hr (HS.out.take _) (by omega))
    have HR2 := Lib.hid (fun w hr => Root_at (n := cmN a b) A' (cmN a b) (b.take (cmN a b)) w (by rw [List.length_take]; omega) hr (HS'.out.take _) (by omega))
    rw [vpE_take va] at HR1
    rw [vpE_take vb, ← htk] at HR2
    rw [← htk] at HRt'
    rw [hv, hE] at H1 H2
    rw [hv] at k1
    rw [hE] at k2
    generalize rootV (a.take (cmN a b)) = r at *
    generalize a.take (cmN a b) = T at *
    generalize cmN a b = n at *
    have k3 : (r == r) = true := by simp
    have b0 : (0 : Int) ≤ (n : Int) := by omega
    have b1 : (n : Int) ≤ (c : Int) := by omega
    have b2 : (n : Int) ≤ (c' : Int) := by omega
    have b3 : n ≤ c := by omega
    have b4 : n ≤ c' := by omega
    clear hE hv va vb htk hr hr'
    go_enter Try.func11, Try.ntmps11
    go_wp2_with fail
    refine (HL.out).mono ?_
    rintro e w' ⟨rfl, rfl⟩
    go_wp2_with fail
    refine (HL'.out).mono ?_
    rintro e w' ⟨rfl, rfl⟩
    go_wp2_with fail
    refine (H1.out w L_0.out M_0.out).mono ?_
    rintro e w1 ⟨rfl, hb⟩
    have B1 := Lib.hid (B0.out.trans (hb.mono B0.out.size))
    have L_1 := Lib.hid (L_0.out.upb hb)
    have M_1 := Lib.hid (M_0.out.upb hb)
    clear hb
    go_wp2_with fail
    refine (H2.out w1 L_1.out M_1.out).mono ?_
    rintro e w2 ⟨rfl, hb⟩
    have B2 := Lib.hid (B1.out.trans (hb.mono B1.out.size))
    have L_2 := Lib.hid (L_1.out.upb hb)
    have M_2 := Lib.hid (M_1.out.upb hb)
    clear hb
    go_wp2_with fail
    refine (HR1.out w2 (HRt.out w2 L_2.out)).mono ?_
    rintro e w3 ⟨rfl, hb⟩
    have B3 := Lib.hid (B2.out.trans (hb.mono B2.out.size))
    have L_3 := Lib.hid (L_2.out.upb hb)
    have M_3 := Lib.hid (M_2.out.upb hb)
    clear hb
    go_wp2_with fail
    refine (HR2.out w3 (HRt'.out w3 M_3.out)).mono ?_
    rintro e w4 ⟨rfl, hb⟩
    have B4 := Lib.hid (B3.out.trans (hb.mono B3.out.size))
    have L_4 := Lib.hid (L_3.out.upb hb)
    have M_4 := Lib.hid (M_3.out.upb hb)
    clear hb
    go_wp2_with fail
    refine (HK.out w4).mono ?_
    rintro e w5 ⟨rfl, hb⟩
    have B5 := Lib.hid (B4.out.trans (hb.mono B4.out.size))
    have L_5 := Lib.hid (L_4.out.upb hb)
    have M_5 := Lib.hid (M_4.out.upb hb)
    clear hb
    go_wp2_with fail
    go_ret
    exact ⟨rfl, B5.out⟩
end Go.Proofs.Ytklhjiagkkhldaa

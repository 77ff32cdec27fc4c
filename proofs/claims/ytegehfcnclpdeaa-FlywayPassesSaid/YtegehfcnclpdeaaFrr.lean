/-
  Fractions of the reference: the walks of gcd, Ratio, Add, mul, passage. Condition: numbers far from the ends of int64.
-/
import Derived.Test.YtegehfcnclpdeaaFrv
import Derived.Test.YtegehfcnclpdeaaFch
namespace Go.Proofs.Ytegehfcnclpdeaa
open Go.RowKit
set_option linter.unusedVariables false

theorem tmod_nn (x y : Nat) : Int.tmod (x : Int) (y : Int) = ((x % y : Nat) : Int) := rfl
set_option maxRecDepth 4000 in
set_option maxHeartbeats 1000000 in
theorem rgcd_any (a b : Nat) (ha : a ≤ 9223372036854775807) (hb : b ≤ 9223372036854775807) (w : World) :
    Calls Try.prog 81 #[.int .i64 a, .int .i64 b] w fun e w' => e = .returned (.int .i64 (Nat.gcd a b : Nat)) ∧ w = w' := by
  obtain ⟨g, hg⟩ : ∃ g, g = Nat.gcd a b := ⟨_, rfl⟩
  have HG := Lib.hid hg
  rw [← hg]
  clear hg
  go_enter Try.func81, Try.ntmps81
  go_wp2_with fail
  go_loop [0, 1, 5] (fun u v _ => ∃ x y : Nat, x ≤ 9223372036854775807 ∧ y ≤ 9223372036854775807 ∧ u = .int .i64 x ∧ v = .int .i64 y ∧ Nat.gcd x y = g) (fun _ v _ => (intOf v).toNat)
  case atStart => exact ⟨a, b, ha, hb, rfl, rfl, HG.out.symm⟩
  case round =>
    obtain ⟨x, y, hx, hy, rfl, rfl, h⟩ := hrel
    have HE := Lib.hid h
    clear h
    cases y with
    | zero =>
      have HX := Lib.hid (show x = g by have := HE.out; rwa [Nat.gcd_zero_right] at this)
      go_wp2_with fail
      go_ret
      exact ⟨by rw [← HX.out]; rfl, rfl⟩
    | succ n =>
      obtain ⟨y, hyn⟩ : ∃ y, y = n + 1 := ⟨_, rfl⟩
      rw [← hyn] at HE hy
      rw [← hyn]
      have e1 : decide ((0 : Int) < (y : Int)) = true := by simp; omega
      have e1' : decide (0 < y) = true := by simp; omega
      have e2 : ((y : Int) == 0) = false := by simp; omega
      have e2' : (y == 0) = false := by simp; omega
      have e3 : ((y : Int) != 0) = true := by simp; omega
      have e3' : (y != 0) = true := by simp; omega
      have HR := Lib.hid (tmod_nn x y)
      have HL := Lib.hid (show x % y < y from Nat.mod_lt _ (by omega))
      have HN := Lib.hid (show Nat.gcd y (x % y) = g by rw [← HE.out, Nat.gcd_comm x y, Nat.gcd_rec y x, Nat.gcd_comm])
      have hne : (y : Int) ≠ 0 := by omega
      clear hyn
      go_wp2_with fail
      go_round
      case rel => exact ⟨y, x % y, hy, by have := HL.out; omega, rfl, by first | rfl | (rw [← HR.out]; rfl) | (rw [← HR.out]; go_num), HN.out⟩
      case measure => have := HL.out; have := HR.out; simp [intOf]; omega
theorem max_abs (n : Int) : max n (-n) = (n.natAbs : Int) := by omega
set_option maxRecDepth 4000 in
set_option maxHeartbeats 1000000 in
theorem RRatio_any (n d : Int) (hn : Mid n) (hd : Mid d) (h0 : 0 < d) (w : World) :
    Calls Try.prog 40 #[.int .i64 n, .int .i64 d] w fun e w' => e = .returned (ratZ (frZ n d)) ∧ Below w.heap.size w w' := by
  obtain ⟨W, hW, hg, hs1, hb0⟩ := one_blk w #[.int .i64 0, .int .i64 0] 29
  have HW := Lib.hid hW
  have HB := Lib.hid hb0
  have hab : ((d.natAbs : Nat) : Int) = d := by omega
  have HD := Lib.hid (show Calls Try.prog 81 #[.int .i64 (max n (-n)), .int .i64 d] W fun e w' => e = .returned (.int .i64 (gcdZ n d : Nat)) ∧ W = w' by
    have := rgcd_any n.natAbs d.natAbs (by unfold Mid at hn; omega) (by unfold Mid at hd; omega) W
    rw [hab, ← max_abs] at this
    exact this)
  have HF := Lib.hid (show frZ n d = (Int.tdiv n (gcdZ n d : Nat), Int.tdiv d (gcdZ n d : Nat)) from rfl)
  have hp : 0 < gcdZ n d := Nat.gcd_pos_of_pos_right _ (by omega)
  generalize gcdZ n d = g at *
  have e1 : ((g : Int) == 0) = false := by simp; omega
  have e1' : (g == 0) = false := by simp; omega
  have hne : (g : Int) ≠ 0 := by omega
  have hne' : g ≠ 0 := by omega
  have q1 : IntKind.i64.wrap (Int.tdiv n (g : Int)) = Int.tdiv n (g : Int) := wrapI_mid (tdiv_mid hn _)
  have q2 : IntKind.i64.wrap (Int.tdiv d (g : Int)) = Int.tdiv d (g : Int) := wrapI_mid (tdiv_mid hd _)
  have q3 : wrap64 (Int.tdiv n (g : Int)) = Int.tdiv n (g : Int) := wrap_mid (tdiv_mid hn _)
  have q4 : wrap64 (Int.tdiv d (g : Int)) = Int.tdiv d (g : Int) := wrap_mid (tdiv_mid hd _)
  have q5 : IntKind.i64.wrap (-n) = -n := wrapI_mid (by unfold Mid at *; omega)
  have q6 : wrap64 (-n) = -n := wrap_mid (by unfold Mid at *; omega)
  have q7 : decide (d < 0) = false := decide_eq_false (by omega)
  clear hW hb0 hn hd hab
  go_enter Try.func40, Try.ntmps40
  go_wp2_with fail
  rw [HW.out]
  refine HD.out.mono ?_
  rintro e w1 ⟨rfl, hm⟩
  have hg1 := (show w1.heap[w.heap.size]? = W.heap[w.heap.size]? by rw [hm]).trans hg
  have hb1 : Below w.heap.size w w1 := by rw [← hm]; exact HB.out
  obtain ⟨d0, f0, d1, f1, HR⟩ := put2 hg1 (.int .i64 (Int.tdiv n (g : Int))) (.int .i64 (Int.tdiv d (g : Int)))
  have BZ := Lib.hid (put2_below (W := w1) (g := w.heap.size) (.int .i64 (Int.tdiv n (g : Int))) (.int .i64 (Int.tdiv d (g : Int))) hb1 (Nat.le_refl _) (by rw [← hm]; exact Nat.le_of_lt hs1))
  clear hg hg1 hb1 hm h0 q7
  go_wp2_with fail
  go_region
  go_wp2_with fail
  (try simp only [Exit.inBlock, Exit.then])
  refine bodyPost_ret (v := ratZ (Int.tdiv n (g : Int), Int.tdiv d (g : Int))) ?_ rfl ⟨by rw [HF.out], BZ.out.drew⟩
  exact results_cell_row rfl _ _ w.heap.size 29 _ _ _ rfl HR.out Try.underlying29 rfl sizeRat
/-- The chance of a passage, as the reference has it. -/
def rpF (L : List (List Int)) (i j : Nat) : Int × Int := frZ ((L.getD i []).getD j 0) (lsum (L.getD i []))
set_option maxRecDepth 8000 in
set_option maxHeartbeats 2000000 in
theorem passageR_any (A : Option Addr) (rs : List Rw) (c : Nat) (i j : Nat) (hi : i < rs.length) (hj : j < rs.length) (hlen : ∀ r ∈ rs, r.l.length = rs.length) (hok : ∀ r ∈ rs, Okr r.l) (hs : 0 < lsum ((rowsL rs).getD i [])) (w : World) (hr : RdR w w.heap.size A rs) :
    Calls Try.prog 58 #[.slice A rs.length c, .int .i64 (i : Int), .int .i64 (j : Int)] w fun e w' => e = .returned (ratZ (rpF (rowsL rs) i j)) ∧ Below w.heap.size w w' := by
  obtain ⟨W, hW, hg, hs1, hb0⟩ := one_blk w #[.int .i64 0, .int .i64 0] 29
  have HR := Lib.hid (hr.up hb0)
  obtain ⟨b, o, A', c', l, rfl, hx, c3, hrd⟩ := (hr.up hb0).row i hi
  have hll : l.length = rs.length := hlen _ (List.mem_of_getElem? hx.out)
  have hokl : Okr l := hok _ (List.mem_of_getElem? hx.out)
  have hL : (rowsL rs).getD i [] = l := row_lsum hx.out
  rw [hL] at hs
  obtain ⟨b2, o2, d, rfl, hd, hc⟩ := hrd.out.int j (by omega)
  have hdd : l.getD j 0 = d := by rw [List.getD_eq_getElem?_getD, hd.out]; rfl
  have hd3 := hokl.2 d (List.mem_of_getElem? hd.out)
  have hsb := lsum_bd hokl
  have HF := Lib.hid (fun w => RRatio_any d (lsum l) (by unfold Mid; omega) (by unfold Mid; omega) hs w)
  have HE := Lib.hid (show rpF (rowsL rs) i j = frZ d (lsum l) by unfold rpF; rw [hL, hdd])
  rw [← HE.out] at HF
  obtain ⟨⟨q1, q2⟩, hq⟩ : ∃ q, rpF (rowsL rs) i j = q := ⟨_, rfl⟩
  rw [hq] at HF ⊢
  unfold ratZ at HF ⊢
  dsimp only at HF ⊢
  have HSm := Lib.hid (fun w (h : Rd w w.heap.size (some ⟨b2, o2, none⟩) (ints l)) => rsum_any (some ⟨b2, o2, none⟩) l c' w h hokl)
  have hb2 : b2 < W.heap.size := by
    obtain ⟨b3, o3, e3, hb3, _⟩ := hrd.out.at_ (ints_at hd.out)
    injection e3 with e3
    injection e3 with e3
    rw [e3]; exact hb3
  have hb1 : b < W.heap.size := by
    obtain ⟨b3, o3, e3, hb3, _⟩ := (hr.up hb0).1.at_ (k := i) (by rw [List.getElem?_map, hx.out]; rfl)
    injection e3 with e3
    injection e3 with e3
    rw [e3]; exact hb3
  have hbw : b < w.heap.size := by
    obtain ⟨b3, o3, e3, hb3, _⟩ := hr.1.at_ (k := i) (by rw [List.getElem?_map, hx.out]; rfl)
    injection e3 with e3
    injection e3 with e3
    rw [e3]; exact hb3
  have hbw2 : b2 < w.heap.size := by
    obtain ⟨b3, o3, e3, hb3, _⟩ := (hr.2 _ (List.mem_of_getElem? hx.out)).at_ (ints_at hd.out)
    injection e3 with e3
    injection e3 with e3
    rw [e3]; exact hb3
  rw [hll] at c3 HSm
  have HW := Lib.hid hW
  have HRd := Lib.hid hrd.out
  have HK := Lib.hid (fun (w5 : World) (h : Below W.heap.size W w5) => show w5.cell? ⟨b, o + i, none⟩ = some (.slice (some ⟨b2, o2, none⟩) rs.length c') ∧ w5.cell? ⟨b2, o2 + j, none⟩ = some (.int .i64 d) from
    ⟨(h.cell (p := ⟨b, o + i, none⟩) hb1).trans c3, (h.cell (p := ⟨b2, o2 + j, none⟩) hb2).trans hc⟩)
  have HK2 := Lib.hid (fun (w5 : World) (k : Below W.heap.size W w5) => show let w6 := (w5.setCell ⟨w.heap.size, 0, none⟩ (.int .i64 q1)).setCell ⟨w.heap.size, 1, none⟩ (.int .i64 q2); w6.cell? ⟨b, o + i, none⟩ = some (.slice (some ⟨b2, o2, none⟩) rs.length c') ∧ w6.cell? ⟨b2, o2 + j, none⟩ = some (.int .i64 d) from
    have t := HK.out w5 k
    ⟨cell_off (cell_off t.1 (by omega)) (by omega), cell_off (cell_off t.2 (by omega)) (by omega)⟩)
  have HS0 := Lib.hid (HK.out W.drew (Below.refl _ W).drew)
  have BD := Lib.hid ((Below.refl W.heap.size W).drew)
  have HP := Lib.hid (fun (w5 : World) (k : Below W.heap.size W w5) => put2 ((k.block w.heap.size hs1).trans hg) (.int .i64 q1) (.int .i64 q2))
  have HZ := Lib.hid (fun (w5 : World) (k : Below W.heap.size W w5) => put2_below (W := w5) (g := w.heap.size) (.int .i64 q1) (.int .i64 q2) (hb0.trans (k.mono (by omega))) (by omega) (by have := k.size; omega))
  have HSW := Lib.hid (HSm.out W.drew (show Rd W.drew W.drew.heap.size (some ⟨b2, o2, none⟩) (ints l) from HRd.out))
  have y0 : (0 : Int) ≤ (i : Int) := by omega
  have y1 : (i : Int) < (rs.length : Int) := by omega
  have y2 : (0 : Int) ≤ (j : Int) := by omega
  have y3 : (j : Int) < (rs.length : Int) := by omega
  generalize rs.length = n at *
  generalize lsum l = sl at *
  clear hW hg hs1 hb0 hr hx hll hokl hL hd hc hdd hd3 hsb hq hb2 hb1 hbw hbw2 c3 hrd HSm HE hs hlen hok
  go_enter Try.func58, Try.ntmps58
  go_wp2_with fail
  rw [HW.out]
  go_region_held3 (fun w' => w'.cell? ⟨b, o + i, none⟩ = some (.slice (some ⟨b2, o2, none⟩) n c') ∧ w'.cell? ⟨b2, o2 + j, none⟩ = some (.int .i64 d))
    (first | exact HS0.out | exact SK7.out | exact SK8.out)
    (first
      | (go_at_call 60; refine HSW.out.mono ?_; rintro e w6 ⟨rfl, rfl⟩)
      | (go_at_call 40; refine (HF.out W.drew).mono ?_; rintro e w7 ⟨rfl, hb⟩; have B7 := Lib.hid (BD.out.trans (hb.mono BD.out.size)); have SK7 := Lib.hid (HK.out w7 B7.out); have SK8 := Lib.hid (HK2.out w7 B7.out); obtain ⟨d0, f0, d1, f1, HR7⟩ := HP.out w7 B7.out; clear hb))
  all_goals
    have BZ := Lib.hid (HZ.out w7 B7.out)
    go_wp2_with fail
    (try simp only [Exit.inBlock, Exit.then])
    exact bodyPost_ret (v := .agg #[.int .i64 q1, .int .i64 q2]) (results_cell_row rfl _ _ w.heap.size 29 _ _ _ rfl HR7.out Try.underlying29 rfl sizeRat) rfl ⟨rfl, BZ.out⟩
end Go.Proofs.Ytegehfcnclpdeaa

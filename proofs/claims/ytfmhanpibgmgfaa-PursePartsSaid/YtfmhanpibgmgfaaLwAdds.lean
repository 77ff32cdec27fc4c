/-
  The walk of the law PurseAdds: it returns true. Conditions: the lists can be read.
-/
import Derived.Test.YtfmhanpibgmgfaaPuk
import Derived.Test.YtfmhanpibgmgfaaPa2
import Derived.Test.YtfmhanpibgmgfaaPa3
namespace Go.Proofs.Ytfmhanpibgmgfaa
open Go.RowKit
set_option linter.unusedVariables false

theorem adl_len (v u : List Int) : (adL v u).length = adLen v u := by
  unfold adL adLen
  split
  · rw [rowF_len]
  · rfl
theorem adl_small (v u : List Int) : adLen v u ≤ 1000000 := by
  unfold adLen
  split
  · rename_i h
    obtain ⟨n, pv, _⟩ := ad_pv h
    have := pv.le
    omega
  · omega
/-- What the law reads of one player's number. -/
theorem rat_at {w : World} {B : Nat} {A : Option Addr} {v : List Int} {W : Nat → Nat → Int} {n p : Nat} (hp : p < n) (h : Rd w B A (ints (rowF (pairF (meanF v W n)) (n * 2)))) :
    ∃ b o, A = some ⟨b, o, none⟩ ∧ w.cell? ⟨b, o + p * 2, none⟩ = some (.int .i64 (meanF v W n p).1) ∧ w.cell? ⟨b, o + p * 2 + 1, none⟩ = some (.int .i64 (meanF v W n p).2) := by
  obtain ⟨b, o, hA, _, hc⟩ := h.at_ (ints_at (rowF_get (F := pairF (meanF v W n)) (n := n * 2) (j := p * 2) (by omega)))
  obtain ⟨b', o', hA', _, hc'⟩ := h.at_ (ints_at (rowF_get (F := pairF (meanF v W n)) (n := n * 2) (j := p * 2 + 1) (by omega)))
  rw [hA] at hA'
  injection hA' with hA'
  injection hA' with e1 e2
  subst e1 e2
  rw [pairF_0] at hc
  rw [pairF_1, ← Nat.add_assoc] at hc'
  exact ⟨b, o, hA, hc, hc'⟩
set_option maxRecDepth 8000 in
set_option maxHeartbeats 8000000 in
theorem PurseAdds_walk (Av : Option Addr) (v : List Int) (cv : Nat) (Au : Option Addr) (u : List Int) (cu : Nat) (hl : v.length ≤ 9223372036854775807) (hlu : u.length ≤ 9223372036854775807) (w : World) (hrv : Rd w w.heap.size Av (ints v)) (hru : Rd w w.heap.size Au (ints u)) :
    Calls Try.prog 7 #[.slice Av v.length cv, .slice Au u.length cu] w fun e w' => e = .returned (.bool true) ∧ Below w.heap.size w w' := by
  have HLo := Lib.hid (long_any Av Au v.length cv u.length cu hl hlu w)
  have HKn := Lib.hid (fun w => known_any w)
  have HA1 := Lib.hid (Add_any Av v cv Au u cu hl hlu w hrv hru)
  have HA2 := Lib.hid (fun w h h' => rAdd_any Av v cv Au u cu hl hlu w h h')
  have HSa := Lib.hid (fun A A' c c' w h h' => SameInts_same A A' (adLen v u) c c' (adL v u) (adl_len v u) (adl_small v u) w h h')
  have HS1 := Lib.hid (fun w h => Shapley_any Av v cv hl w h)
  have HS2 := Lib.hid (fun w h => Shapley_any Au u cu hlu w h)
  have HS3 := Lib.hid (fun A c w h => Shapley_any A (adL v u) c (by rw [adl_len]; have := adl_small v u; omega) w h)
  rw [adl_len] at HS3
  have HRv := Lib.hid hrv
  have HRu := Lib.hid hru
  generalize hlo : (decide (200 < v.length) || decide (200 < u.length)) = lo at *
  generalize v.length = nv at *
  generalize u.length = nu at *
  clear hrv hru hlo
  cases lo
  case true =>
    go_enter Try.func7, Try.ntmps7
    go_wp2_with fail
    refine HLo.out.mono ?_
    rintro e w' ⟨rfl, rfl⟩
    go_wp2_with fail
    refine (HKn.out _).mono ?_
    rintro e w' ⟨rfl, hb⟩
    have HB2 := Lib.hid hb
    clear hb
    go_wp2_with fail
    go_ret
    exact ⟨rfl, HB2.out⟩
  case false =>
    obtain ⟨E, hE⟩ : ∃ E, adE v u = E := ⟨_, rfl⟩
    have HE := Lib.hid hE
    rw [hE] at HA1 HA2
    obtain ⟨ml, hml⟩ : ∃ ml, adLen v u = ml := ⟨_, rfl⟩
    have HML := Lib.hid hml
    rw [hml] at HA1 HA2 HSa HS3
    have e1 : (E != E) = false := by simp
    clear hE hml
    go_enter Try.func7, Try.ntmps7
    go_wp2_with fail
    refine HLo.out.mono ?_
    rintro e w' ⟨rfl, rfl⟩
    go_wp2_with fail
    refine HA1.out.mono ?_
    rintro e w1 ⟨A1, c1, rfl, hrd, hb⟩
    have B1 := Lib.hid hb
    have V1 := Lib.hid ((HRv.out.below hb (Nat.le_refl _)).more hb.size)
    have U1 := Lib.hid ((HRu.out.below hb (Nat.le_refl _)).more hb.size)
    have R1 := Lib.hid hrd
    clear hb hrd
    go_wp2_with fail
    refine (HA2.out w1 V1.out U1.out).mono ?_
    rintro e w2 ⟨A2, c2, rfl, hrd, hb⟩
    have B2 := Lib.hid (B1.out.trans (hb.mono B1.out.size))
    have V2 := Lib.hid ((V1.out.below hb (Nat.le_refl _)).more hb.size)
    have U2 := Lib.hid ((U1.out.below hb (Nat.le_refl _)).more hb.size)
    have R12 := Lib.hid ((R1.out.below hb (Nat.le_refl _)).more hb.size)
    have R2 := Lib.hid hrd
    clear hb hrd
    go_wp2_with fail
    refine (HSa.out A1 A2 c1 c2 w2 R12.out R2.out).mono ?_
    rintro e w3 ⟨rfl, m3, hw3⟩
    have B3 := Lib.hid (show Below w.heap.size w w3 by rw [hw3]; exact bdN' B2.out m3)
    have V3 := Lib.hid (show Rd w3 w3.heap.size Av (ints v) by rw [hw3]; exact V2.out)
    have U3 := Lib.hid (show Rd w3 w3.heap.size Au (ints u) by rw [hw3]; exact U2.out)
    have R3 := Lib.hid (show Rd w3 w3.heap.size A1 (ints (adL v u)) by rw [hw3]; exact R12.out)
    clear hw3
    by_cases ho : E = 0
    case neg =>
      have e5 : (E != 0) = true := by rw [bne_iff_ne]; exact ho
      clear ho
      go_wp2_with fail
      refine (HKn.out _).mono ?_
      rintro e w7 ⟨rfl, hb⟩
      have B7 := Lib.hid (B3.out.trans (hb.mono B3.out.size))
      clear hb
      go_wp2_with fail
      go_ret
      exact ⟨rfl, B7.out⟩
    case pos =>
      obtain ⟨n, pv, pu, pa, hv, hu, ha, hup, hup2, hup3, hadl, _⟩ := ad_pv (HE.out.trans ho)
      have mv : mnLen v = n ∧ mnL v wS = rowF (pairF (meanF v wS n)) (n * 2) := ⟨by unfold mnLen; rw [if_pos hv, pv.pl], by unfold mnL; rw [if_pos hv, pv.pl]⟩
      have mu2 : mnLen u = n ∧ mnL u wS = rowF (pairF (meanF u wS n)) (n * 2) := ⟨by unfold mnLen; rw [if_pos hu, pu.pl], by unfold mnL; rw [if_pos hu, pu.pl]⟩
      have ma : mnLen (adL v u) = n ∧ mnL (adL v u) wS = rowF (pairF (meanF (adL v u) wS n)) (n * 2) := ⟨by unfold mnLen; rw [if_pos ha, pa.pl], by unfold mnL; rw [if_pos ha, pa.pl]⟩
      rw [hv, mv.1, mv.2] at HS1
      rw [hu, mu2.1, mu2.2] at HS2
      rw [ha, ma.1, ma.2] at HS3
      have hn5 := pv.five
      have HX := Lib.hid (fun p (hp : p < n) => sh_120 (v := v) hn5 hp)
      have HY := Lib.hid (fun p (hp : p < n) => sh_120 (v := u) hn5 hp)
      have HZ := Lib.hid (fun p (hp : p < n) => sh_120 (v := adL v u) hn5 hp)
      have HLin := Lib.hid (fun p (hp : p < n) => show sI (addG (adL v u) wS n p) (2 ^ n) = sI (addG v wS n p) (2 ^ n) + sI (addG u wS n p) (2 ^ n) by rw [hadl]; exact add_lin hp)
      have wsok : WOk wS := fun b a h => wS_le h
      have HTx := Lib.hid (fun p (hp : p < n) => (sums_le (k := 2 ^ n) wsok hn5 hp hup (Nat.le_refl _)).1)
      have HTy := Lib.hid (fun p (hp : p < n) => (sums_le (k := 2 ^ n) wsok hn5 hp hup2 (Nat.le_refl _)).1)
      have HTz := Lib.hid (fun p (hp : p < n) => (sums_le (k := 2 ^ n) wsok hn5 hp hup3 (Nat.le_refl _)).1)
      have hk := (k120_ok ⟨n, by omega⟩).2
      have e5 : (E != 0) = false := by rw [ho]; rfl
      have e6 : ((n : Int) != (n : Int)) = false := by simp
      have e6' : (n != n) = false := by simp
      simp only at hk
      generalize k120 n = kk at *
      clear ho pv pu pa hv hu ha hup hup2 hup3 hadl mv mu2 ma wsok
      go_wp2_with fail
      refine (HS1.out w3 V3.out).mono ?_
      rintro e w4 ⟨A4, c4, rfl, hrd, hb⟩
      have B4 := Lib.hid (B3.out.trans (hb.mono B3.out.size))
      have U4 := Lib.hid ((U3.out.below hb (Nat.le_refl _)).more hb.size)
      have R4 := Lib.hid ((R3.out.below hb (Nat.le_refl _)).more hb.size)
      have X4 := Lib.hid hrd
      clear hb hrd
      go_wp2_with fail
      refine (HS2.out w4 U4.out).mono ?_
      rintro e w5 ⟨A5, c5, rfl, hrd, hb⟩
      have B5 := Lib.hid (B4.out.trans (hb.mono B4.out.size))
      have R5 := Lib.hid ((R4.out.below hb (Nat.le_refl _)).more hb.size)
      have X5 := Lib.hid ((X4.out.below hb (Nat.le_refl _)).more hb.size)
      have Y5 := Lib.hid hrd
      clear hb hrd
      go_wp2_with fail
      refine (HS3.out A1 c1 w5 R5.out).mono ?_
      rintro e w6 ⟨A6, c6, rfl, hrd, hb⟩
      have B6 := Lib.hid (B5.out.trans (hb.mono B5.out.size))
      have X6 := Lib.hid ((X5.out.below hb (Nat.le_refl _)).more hb.size)
      have Y6 := Lib.hid ((Y5.out.below hb (Nat.le_refl _)).more hb.size)
      have Z6 := Lib.hid hrd
      clear hb hrd
      go_wp2_with fail
      go_loopw [15] (fun z wr => ∃ p m : Nat, p ≤ n ∧ z = .int .i64 (p : Int) ∧ wr = w6.drewN m) (fun z _ => n - (intOf z).toNat)
      case atStart => exact ⟨0, 0, by omega, rfl, rfl⟩
      case round =>
        obtain ⟨p, m, hp, rfl, hw⟩ := hrel
        have HWW := Lib.hid hw
        by_cases hlt : p < n
        · obtain ⟨b1, o1, hA4, x1, x2⟩ := rat_at hlt (show Rd wr wr.heap.size A4 _ by rw [hw]; exact X6.out)
          obtain ⟨b2, o2, hA5, y1, y2⟩ := rat_at hlt (show Rd wr wr.heap.size A5 _ by rw [hw]; exact Y6.out)
          obtain ⟨b3, o3, hA6, z1, z2⟩ := rat_at hlt (show Rd wr wr.heap.size A6 _ by rw [hw]; exact Z6.out)
          have HP4 := Lib.hid hA4
          have HP5 := Lib.hid hA5
          have HP6 := Lib.hid hA6
          subst hA4 hA5 hA6
          have hx := HX.out p hlt
          have hy := HY.out p hlt
          have hz := HZ.out p hlt
          have hlin := HLin.out p hlt
          have tx := HTx.out p hlt
          have ty := HTy.out p hlt
          have tz := HTz.out p hlt
          generalize (meanF v wS n p) = xx at *
          generalize (meanF u wS n p) = yy at *
          generalize (meanF (adL v u) wS n p) = zz at *
          obtain ⟨xn, xd⟩ := xx
          obtain ⟨yn, yd⟩ := yy
          obtain ⟨zn, zd⟩ := zz
          simp only at x1 x2 y1 y2 z1 z2 hx hy hz
          generalize sI (addG v wS n p) (2 ^ n) = sx at *
          generalize sI (addG u wS n p) (2 ^ n) = sy at *
          generalize sI (addG (adL v u) wS n p) (2 ^ n) = sz at *
          have a0 : (0 : Int) ≤ (p : Int) := by omega
          have a1 : (p : Int) < (n : Int) := by omega
          have d1 : decide (xd < 1) = false := decide_eq_false (by omega)
          have d2 : decide (yd < 1) = false := decide_eq_false (by omega)
          have d3 : decide (zd < 1) = false := decide_eq_false (by omega)
          have f1 : (xd == 0) = false := by rw [beq_eq_false_iff_ne]; omega
          have f2 : (yd == 0) = false := by rw [beq_eq_false_iff_ne]; omega
          have f3 : (zd == 0) = false := by rw [beq_eq_false_iff_ne]; omega
          have n1 : xd ≠ 0 := by omega
          have n2 : yd ≠ 0 := by omega
          have n3 : zd ≠ 0 := by omega
          have mx := mul_le (A := 1536000) (B := 120) (u := sx) (v := kk) (by omega) (by omega)
          have my := mul_le (A := 1536000) (B := 120) (u := sy) (v := kk) (by omega) (by omega)
          have mz := mul_le (A := 1536000) (B := 120) (u := sz) (v := kk) (by omega) (by omega)
          have hfin : xn * Int.tdiv 120 xd + yn * Int.tdiv 120 yd = zn * Int.tdiv 120 zd := by rw [hx.2.2, hy.2.2, hz.2.2, hlin, Int.add_mul]
          have g1 : IntKind.i64.wrap (Int.tdiv 120 xd) = Int.tdiv 120 xd := wrapI_mid (tdiv_mid (by unfold Mid; omega) _)
          have g2 : IntKind.i64.wrap (Int.tdiv 120 yd) = Int.tdiv 120 yd := wrapI_mid (tdiv_mid (by unfold Mid; omega) _)
          have g3 : IntKind.i64.wrap (Int.tdiv 120 zd) = Int.tdiv 120 zd := wrapI_mid (tdiv_mid (by unfold Mid; omega) _)
          have g4 : IntKind.i64.wrap (xn * Int.tdiv 120 xd) = xn * Int.tdiv 120 xd := wrapI_mid (by rw [hx.2.2]; unfold Mid; omega)
          have g5 : IntKind.i64.wrap (yn * Int.tdiv 120 yd) = yn * Int.tdiv 120 yd := wrapI_mid (by rw [hy.2.2]; unfold Mid; omega)
          have g6 : IntKind.i64.wrap (zn * Int.tdiv 120 zd) = zn * Int.tdiv 120 zd := wrapI_mid (by rw [hz.2.2]; unfold Mid; omega)
          have g7 : IntKind.i64.wrap (xn * Int.tdiv 120 xd + yn * Int.tdiv 120 yd) = xn * Int.tdiv 120 xd + yn * Int.tdiv 120 yd := wrapI_mid (by rw [hx.2.2, hy.2.2]; unfold Mid; omega)
          have hne : (xn * Int.tdiv 120 xd + yn * Int.tdiv 120 yd != zn * Int.tdiv 120 zd) = false := by rw [hfin]; simp
          clear hx hy hz hlin tx ty tz mx my mz hfin hw hk
          go_wp2_with fail
          go_quiet (fail)
          go_wp2_with fail
          go_roundw
          case rel => exact ⟨p + 1, _, by omega, by go_num, by rw [HWW.out]; exact World.drewN_drewN _ _ _⟩
          case measure => simp [intOf]; omega
        · have hpn : p = n := by omega
          subst hpn
          have Bw := Lib.hid (show Below w.heap.size w wr by rw [hw]; exact bdN' B6.out m)
          clear hlt hw
          go_wp2_with fail
          refine (HKn.out _).mono ?_
          rintro e w7 ⟨rfl, hb⟩
          have B7 := Lib.hid (Bw.out.trans (hb.mono Bw.out.size))
          clear hb
          go_wp2_with fail
          go_ret
          exact ⟨rfl, B7.out⟩
end Go.Proofs.Ytfmhanpibgmgfaa

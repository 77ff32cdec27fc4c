/-
  The walk of the law PurseDuals: it returns true. Conditions: the lists can be read.
-/
import Derived.Test.YtfmhanpibgmgfaaPuk
import Derived.Test.YtfmhanpibgmgfaaDu2
import Derived.Test.YtfmhanpibgmgfaaPq2
import Derived.Test.YtfmhanpibgmgfaaPq3
import Derived.Test.YtfmhanpibgmgfaaPq5
namespace Go.Proofs.Ytfmhanpibgmgfaa
open Go.RowKit
set_option linter.unusedVariables false

theorem Rd.stepd {w w' : World} {A : Option Addr} {xs : List Value} (h : Rd w w.heap.size A xs) (hb : Below w.heap.size w w') : Rd w' w'.heap.size A xs := (h.below hb (Nat.le_refl _)).more hb.size
theorem dul_len (v : List Int) : (duL v).length = duLen v := by
  unfold duL duLen
  split
  · rw [rowF_len]
  · rfl
theorem du_vd {v : List Int} (h : duE v = 0) : vdE v = 0 ∧ upB 1000 (rowF (duF v) v.length) = true := by
  unfold duE at h
  split at h
  · rename_i h1
    split at h
    · rename_i h2
      exact ⟨h1, h2⟩
    · cases h
  · cases h
theorem dul_small (v : List Int) : duLen v ≤ 32 := by
  unfold duLen
  split
  · rename_i h
    obtain ⟨n, pv, _⟩ := vdE_pv (du_vd h).1
    exact pv.le
  · omega
theorem pql_len (v o : List Int) : (pqL v o).length = pqLen v o := by
  unfold pqL pqLen
  split
  · rw [rowF_len]
  · rfl
theorem pql_small (v o : List Int) : pqLen v o ≤ 32 := by
  unfold pqLen
  split
  · rename_i h
    obtain ⟨n, pv, _⟩ := orE_ok h
    exact pv.le
  · omega
theorem fg_len {l : List Int} {n : Nat} (pv : Pv l n) (l' : List Int) (hl : l'.length = l.length) (h0 : nth l' 0 = 0) (hup : upB 1000 l' = true) : vdE l' = 0 := by
  unfold vdE
  rw [fg_yes pv.one pv.five (by rw [hl, pv.len]), hup, h0]
  rfl
theorem up_rowd {F : Nat → Int} {n : Nat} {m : Int} (h : ∀ g, -m ≤ F g ∧ F g ≤ m) : upB m (rowF F n) = true := by
  unfold upB
  rw [List.all_eq_true]
  intro x hx
  obtain ⟨i, hi, e⟩ := List.mem_iff_getElem.1 hx
  rw [rowF_len] at hi
  have h1 : nth (rowF F n) i = F i := nth_get (rowF_get hi)
  have h2 : nth (rowF F n) i = x := nth_get (by rw [List.getElem?_eq_getElem (by rw [rowF_len]; exact hi), e])
  have := h i
  rw [← h1, h2] at this
  exact inUp_iff.2 this
theorem du_pv {v : List Int} (h : duE v = 0) : vdE v = 0 ∧ vdE (duL v) = 0 ∧ mnLen (duL v) = mnLen v ∧ mnL (duL v) wS = mnL v wS ∧ (mnL v wS).length = mnLen v * 2 ∧ mnLen v ≤ 5 := by
  obtain ⟨hv, hu⟩ := du_vd h
  obtain ⟨n, pv, hup⟩ := vdE_pv hv
  have e : duL v = rowF (duF v) v.length := if_pos h
  have hl : (duL v).length = v.length := by rw [e, rowF_len]
  have hL0 : 0 < v.length := by rw [pv.len]; exact Nat.two_pow_pos n
  have h2 : vdE (duL v) = 0 := fg_len pv _ hl (by
    rw [e, nth_get (rowF_get hL0)]
    unfold duF
    rw [Nat.sub_zero]
    omega) (by rw [e]; exact hu)
  have m1 : mnLen v = n := by unfold mnLen; rw [if_pos hv, pv.pl]
  have m2 : mnLen (duL v) = n := by unfold mnLen; rw [if_pos h2, hl, pv.pl]
  have m3 : mnL v wS = rowF (pairF (meanF v wS n)) (n * 2) := by unfold mnL; rw [if_pos hv, pv.pl]
  have m4 : mnL (duL v) wS = rowF (pairF (meanF (duL v) wS n)) (n * 2) := by unfold mnL; rw [if_pos h2, hl, pv.pl]
  refine ⟨hv, h2, by rw [m1, m2], ?_, by rw [m3, m1, rowF_len], by rw [m1]; exact pv.five⟩
  rw [m3, m4]
  refine rowF_congr fun p hp => ?_
  unfold pairF
  rw [du_mean pv (by omega) h]
theorem pm_le {v o : List Int} {n : Nat} (hup : upB 1000 v = true) : ∀ k h, -1000 ≤ pmF v o n k h ∧ pmF v o n k h ≤ 1000
  | 0, h => by
    show -1000 ≤ (0 : Int) ∧ (0 : Int) ≤ 1000
    omega
  | k + 1, h => by
    show -1000 ≤ (if h = mpF o k n then nth v k else pmF v o n k h) ∧ (if h = mpF o k n then nth v k else pmF v o n k h) ≤ 1000
    split
    · exact upB_nth hup (by omega) k
    · exact pm_le hup k h
theorem mp_zero (o : List Int) : ∀ i, mpF o 0 i = 0
  | 0 => rfl
  | i + 1 => by
    show (if (0 : Nat).testBit i = true then mpF o 0 i ||| 2 ^ plA o i else mpF o 0 i) = 0
    rw [if_neg (by simp)]
    exact mp_zero o i
theorem pq_pv {v o : List Int} (h : orE v o = 0) : ∃ n, n ≤ 5 ∧ Ord o n ∧ vdE v = 0 ∧ vdE (pqL v o) = 0 ∧ mnLen (pqL v o) = n ∧ mnLen v = n ∧ mnL (pqL v o) wS = rowF (pairF (meanF (pqL v o) wS n)) (n * 2) ∧ mnL v wS = rowF (pairF (meanF v wS n)) (n * 2) ∧ ∀ p, p < n → meanF (pqL v o) wS n (plA o p) = meanF v wS n p := by
  obtain ⟨n, pv, hup, od, hv⟩ := orE_ok h
  have e : pqL v o = rowF (pmF v o n (2 ^ n)) (2 ^ n) := by unfold pqL; rw [if_pos h, od.len, pv.len]
  have hl : (pqL v o).length = v.length := by rw [e, rowF_len, pv.len]
  have hL0 : 0 < 2 ^ n := Nat.two_pow_pos n
  have h2 : vdE (pqL v o) = 0 := fg_len pv _ hl (by
    rw [e, nth_get (rowF_get hL0)]
    have := pm_at (v := v) od (2 ^ n) (Nat.le_refl _) 0 hL0
    rw [mp_zero] at this
    rw [this, pv.zero]) (by rw [e]; exact up_rowd (pm_le hup _))
  exact ⟨n, pv.five, od, hv, h2, by unfold mnLen; rw [if_pos h2, hl, pv.pl], by unfold mnLen; rw [if_pos hv, pv.pl], by unfold mnL; rw [if_pos h2, hl, pv.pl], by unfold mnL; rw [if_pos hv, pv.pl], fun p hp => pq_mean pv od h hp⟩
theorem rat_atd {w : World} {B : Nat} {A : Option Addr} {M : Nat → Int × Int} {n p : Nat} (hp : p < n) (h : Rd w B A (ints (rowF (pairF M) (n * 2)))) :
    ∃ b o, A = some ⟨b, o, none⟩ ∧ w.cell? ⟨b, o + p * 2, none⟩ = some (.int .i64 (M p).1) ∧ w.cell? ⟨b, o + p * 2 + 1, none⟩ = some (.int .i64 (M p).2) := by
  obtain ⟨b, o, hA, _, hc⟩ := h.at_ (ints_at (rowF_get (F := pairF M) (n := n * 2) (j := p * 2) (by omega)))
  obtain ⟨b', o', hA', _, hc'⟩ := h.at_ (ints_at (rowF_get (F := pairF M) (n := n * 2) (j := p * 2 + 1) (by omega)))
  rw [hA] at hA'
  injection hA' with hA'
  injection hA' with e1 e2
  subst e1 e2
  rw [pairF_0] at hc
  rw [pairF_1, ← Nat.add_assoc] at hc'
  exact ⟨b, o, hA, hc, hc'⟩
set_option maxRecDepth 8000 in
set_option maxHeartbeats 8000000 in
theorem PurseDuals_walk (Av : Option Addr) (v : List Int) (cv : Nat) (Ao : Option Addr) (o : List Int) (co : Nat) (hl : v.length ≤ 9223372036854775807) (hlo : o.length ≤ 9223372036854775807) (w : World) (hrv : Rd w w.heap.size Av (ints v)) (hro : Rd w w.heap.size Ao (ints o)) :
    Calls Try.prog 8 #[.slice Av v.length cv, .slice Ao o.length co] w fun e w' => e = .returned (.bool true) ∧ Below w.heap.size w w' := by
  have HLo := Lib.hid (long_any Av Ao v.length cv o.length co hl hlo w)
  have HKn := Lib.hid (fun w => known_any w)
  have HD1 := Lib.hid (Dual_any Av v cv hl w hrv)
  have HD2 := Lib.hid (fun w h => rDual_any Av v cv hl w h)
  have HF1 := Lib.hid (fun w h h' => Permute_any Av v cv Ao o co hl hlo w h h')
  have HF2 := Lib.hid (fun w h h' => rPermute_any Av v cv Ao o co hl hlo w h h')
  have HSa := Lib.hid (fun A A' c c' w h h' => SameInts_same A A' (duLen v) c c' (duL v) (dul_len v) (by have := dul_small v; omega) w h h')
  have HSc := Lib.hid (fun A A' c c' w h h' => SameInts_same A A' (pqLen v o) c c' (pqL v o) (pql_len v o) (by have := pql_small v o; omega) w h h')
  have HS1 := Lib.hid (fun w h => Shapley_any Av v cv hl w h)
  have HS2 := Lib.hid (fun A c w h => Shapley_any A (duL v) c (by rw [dul_len]; have := dul_small v; omega) w h)
  have HS3 := Lib.hid (fun A c w h => Shapley_any A (pqL v o) c (by rw [pql_len]; have := pql_small v o; omega) w h)
  rw [dul_len] at HS2
  rw [pql_len] at HS3
  have HX := Lib.hid (fun h => du_pv (v := v) h)
  have HY := Lib.hid (show orE v o = 0 → ∃ (n : Nat) (MZ MX : Nat → Int × Int), n ≤ 5 ∧ Ord o n ∧ vdE v = 0 ∧ vdE (pqL v o) = 0 ∧ mnLen (pqL v o) = n ∧ mnLen v = n ∧ mnL (pqL v o) wS = rowF (pairF MZ) (n * 2) ∧ mnL v wS = rowF (pairF MX) (n * 2) ∧ ∀ p, p < n → MZ (plA o p) = MX p from fun h => by
    obtain ⟨n, a1, a2, a3, a4, a5, a6, a7, a8, a9⟩ := pq_pv h
    exact ⟨n, _, _, a1, a2, a3, a4, a5, a6, a7, a8, a9⟩)
  have HSr := Lib.hid (fun (h : duE v = 0) A A' c c' w h1 h2 => SameRats_same A A' (mnLen v) c c' (mnL v wS) (du_pv h).2.2.2.2.1 (by have := (du_pv h).2.2.2.2.2; omega) w h1 h2)
  have HRo := Lib.hid hro
  have HRv := Lib.hid hrv
  generalize mnL (duL v) wS = YL at *
  generalize mnLen (duL v) = YN at *
  generalize vdE (duL v) = J at *
  generalize mnL (pqL v o) wS = ZL at *
  generalize mnLen (pqL v o) = ZN at *
  generalize vdE (pqL v o) = K at *
  generalize mnL v wS = XL at *
  generalize mnLen v = XN at *
  generalize vdE v = I at *
  generalize duE v = E at *
  generalize orE v o = G at *
  generalize duLen v = N1 at *
  generalize duL v = L1 at *
  generalize pqLen v o = M1 at *
  generalize pqL v o = K1 at *
  generalize hlo : (decide (200 < v.length) || decide (200 < o.length)) = lo at *
  generalize v.length = nv at *
  obtain ⟨no, hno⟩ : ∃ no, o.length = no := ⟨_, rfl⟩
  have HNo := Lib.hid hno
  rw [hno] at HLo HF1 HF2 ⊢
  clear hrv hro hlo hl hno
  cases lo
  case true =>
    go_enter Try.func8, Try.ntmps8
    go_wp2_with fail
    refine HLo.out.mono ?_
    rintro e w' ⟨rfl, rfl⟩
    go_wp2_with fail
    refine (HKn.out _).mono ?_
    rintro e w' ⟨rfl, hb⟩
    have HB2 := Lib.hid hb
    clear hb
    go_wp2_with fail
    go_ret
    exact ⟨rfl, HB2.out⟩
  case false =>
    have e1 : (E != E) = false := by simp
    have e2 : (G != G) = false := by simp
    go_enter Try.func8, Try.ntmps8
    go_wp2_with fail
    refine HLo.out.mono ?_
    rintro e w' ⟨rfl, rfl⟩
    go_wp2_with fail
    refine (HD1.out).mono ?_
    rintro e w1 ⟨A1, c1, rfl, hrd, hb⟩
    have B1 := Lib.hid hb
    have V1 := Lib.hid (HRv.out.stepd hb)
    have O1 := Lib.hid (HRo.out.stepd hb)
    have RA1 := Lib.hid hrd
    clear hb hrd
    go_wp2_with fail
    refine (HD2.out w1 V1.out).mono ?_
    rintro e w2 ⟨A2, c2, rfl, hrd, hb⟩
    have B2 := Lib.hid (B1.out.trans (hb.mono B1.out.size))
    have V2 := Lib.hid (V1.out.stepd hb)
    have O2 := Lib.hid (O1.out.stepd hb)
    have RA2 := Lib.hid (RA1.out.stepd hb)
    have RB2 := Lib.hid hrd
    clear hb hrd
    go_wp2_with fail
    refine (HF1.out w2 V2.out O2.out).mono ?_
    rintro e w3 ⟨A3, c3, rfl, hrd, hb⟩
    have B3 := Lib.hid (B2.out.trans (hb.mono B2.out.size))
    have V3 := Lib.hid (V2.out.stepd hb)
    have O3 := Lib.hid (O2.out.stepd hb)
    have RA3 := Lib.hid (RA2.out.stepd hb)
    have RB3 := Lib.hid (RB2.out.stepd hb)
    have RC3 := Lib.hid hrd
    clear hb hrd
    go_wp2_with fail
    refine (HF2.out w3 V3.out O3.out).mono ?_
    rintro e w4 ⟨A4, c4, rfl, hrd, hb⟩
    have B4 := Lib.hid (B3.out.trans (hb.mono B3.out.size))
    have V4 := Lib.hid (V3.out.stepd hb)
    have O4 := Lib.hid (O3.out.stepd hb)
    have RA4 := Lib.hid (RA3.out.stepd hb)
    have RB4 := Lib.hid (RB3.out.stepd hb)
    have RC4 := Lib.hid (RC3.out.stepd hb)
    have RD4 := Lib.hid hrd
    clear hb hrd
    go_wp2_with fail
    refine (HSa.out A1 A2 c1 c2 w4 RA4.out RB4.out).mono ?_
    rintro e w5 ⟨rfl, m5, hw⟩
    have hb : Below w4.heap.size w4 w5 := by rw [hw]; exact bdN' (Below.refl _ _) m5
    have B5 := Lib.hid (B4.out.trans (hb.mono B4.out.size))
    have V5 := Lib.hid (V4.out.stepd hb)
    have O5 := Lib.hid (O4.out.stepd hb)
    have RA5 := Lib.hid (RA4.out.stepd hb)
    have RB5 := Lib.hid (RB4.out.stepd hb)
    have RC5 := Lib.hid (RC4.out.stepd hb)
    have RD5 := Lib.hid (RD4.out.stepd hb)
    clear hb hw
    go_wp2_with fail
    refine (HSc.out A3 A4 c3 c4 w5 RC5.out RD5.out).mono ?_
    rintro e w6 ⟨rfl, m6, hw⟩
    have hb : Below w5.heap.size w5 w6 := by rw [hw]; exact bdN' (Below.refl _ _) m6
    have B6 := Lib.hid (B5.out.trans (hb.mono B5.out.size))
    have V6 := Lib.hid (V5.out.stepd hb)
    have O6 := Lib.hid (O5.out.stepd hb)
    have RA6 := Lib.hid (RA5.out.stepd hb)
    have RC6 := Lib.hid (RC5.out.stepd hb)
    have RD6 := Lib.hid (RD5.out.stepd hb)
    clear hb hw
    go_wp2_with fail
    refine (HS1.out w6 V6.out).mono ?_
    rintro e w7 ⟨A7, c7, rfl, hrd, hb⟩
    have B7 := Lib.hid (B6.out.trans (hb.mono B6.out.size))
    have V7 := Lib.hid (V6.out.stepd hb)
    have O7 := Lib.hid (O6.out.stepd hb)
    have RA7 := Lib.hid (RA6.out.stepd hb)
    have RC7 := Lib.hid (RC6.out.stepd hb)
    have RX7 := Lib.hid hrd
    clear hb hrd
    go_wp2_with fail
    refine (HS2.out A1 c1 w7 RA7.out).mono ?_
    rintro e w8 ⟨A8, c8, rfl, hrd, hb⟩
    have B8 := Lib.hid (B7.out.trans (hb.mono B7.out.size))
    have V8 := Lib.hid (V7.out.stepd hb)
    have O8 := Lib.hid (O7.out.stepd hb)
    have RA8 := Lib.hid (RA7.out.stepd hb)
    have RC8 := Lib.hid (RC7.out.stepd hb)
    have RX8 := Lib.hid (RX7.out.stepd hb)
    have RY8 := Lib.hid hrd
    clear hb hrd
    go_wp2_with fail
    refine (HS3.out A3 c3 w8 RC8.out).mono ?_
    rintro e w9 ⟨A9, c9, rfl, hrd, hb⟩
    have B9 := Lib.hid (B8.out.trans (hb.mono B8.out.size))
    have V9 := Lib.hid (V8.out.stepd hb)
    have O9 := Lib.hid (O8.out.stepd hb)
    have RC9 := Lib.hid (RC8.out.stepd hb)
    have RX9 := Lib.hid (RX8.out.stepd hb)
    have RY9 := Lib.hid (RY8.out.stepd hb)
    have RZ9 := Lib.hid hrd
    clear hb hrd
    by_cases hE : E = 0
    case pos =>
      obtain ⟨x1, x2, x3, x4, x5, x6⟩ := HX.out hE
      have e3 : (E == 0) = true := by rw [hE]; rfl
      have e4 : (I != 0) = false := by rw [x1]; rfl
      have e4' : (J != 0) = false := by rw [x2]; rfl
      have S1 := Lib.hid (HSr.out hE A7 A8 c7 c8 w9 RX9.out (by rw [← x4]; exact RY9.out))
      subst x3
      clear hE x1 x2 x4 x5 x6
      go_wp2_with fail
      refine S1.out.mono ?_
      rintro e w10 ⟨rfl, m10, hw⟩
      have hb : Below w9.heap.size w9 w10 := by rw [hw]; exact bdN' (Below.refl _ _) m10
      have B10 := Lib.hid (B9.out.trans (hb.mono B9.out.size))
      have O10 := Lib.hid (O9.out.stepd hb)
      have RX10 := Lib.hid (RX9.out.stepd hb)
      have RZ10 := Lib.hid (RZ9.out.stepd hb)
      clear hb hw
      by_cases hG : G = 0
      case pos =>
        obtain ⟨n, MZ, MX, hn5, od, y1, y2, y3, y4, y5, y6, y7⟩ := HY.out hG
        have e5 : (G == 0) = true := by rw [hG]; rfl
        have e6 : (I != 0) = false := by rw [y1]; rfl
        have e7 : (K != 0) = false := by rw [y2]; rfl
        have e8 : no = n := by rw [← HNo.out]; exact od.len
        have HOd := Lib.hid od
        have HM := Lib.hid y7
        have XR := Lib.hid (show Rd w10 w10.heap.size A7 (ints (rowF (pairF MX) (n * 2))) by rw [← y6]; exact RX10.out)
        have ZR := Lib.hid (show Rd w10 w10.heap.size A9 (ints (rowF (pairF MZ) (n * 2))) by rw [← y5]; exact RZ10.out)
        subst y3 y4 e8
        have e9 : ((no : Int) != (no : Int)) = false := by simp
        have e9' : (no != no) = false := by simp
        have q1 := fun a b W => rat_ne a b W
        have gd := guard_rat
        clear hG y1 y2 y5 y6 y7 od
        go_wp2_with fail
        go_loopw [19] (fun z wr => ∃ p m : Nat, p ≤ no ∧ z = .int .i64 (p : Int) ∧ wr = w10.drewN m) (fun z _ => no - (intOf z).toNat)
        case atStart => exact ⟨0, 0, by omega, rfl, rfl⟩
        case round =>
          obtain ⟨p, m, hp, rfl, hw⟩ := hrel
          have HQQ := Lib.hid hw
          by_cases hlt : p < no
          · have p0 : (0 : Int) ≤ (p : Int) := by omega
            have p1 : (p : Int) < (no : Int) := by omega
            obtain ⟨bo, oo, d, hAo, hd, hc⟩ := (show Rd wr wr.heap.size Ao (ints o) by rw [hw]; exact O10.out).int p (by rw [HNo.out]; exact hlt)
            obtain ⟨hpl, hpd⟩ := plA_lt HOd.out hlt
            rw [nth_get hd.out] at hpd
            subst hpd
            obtain ⟨b1, o1, hA7, x1, x2⟩ := rat_atd hlt (show Rd wr wr.heap.size A7 _ by rw [hw]; exact XR.out)
            obtain ⟨b2, o2, hA9, z1, z2⟩ := rat_atd hpl (show Rd wr wr.heap.size A9 _ by rw [hw]; exact ZR.out)
            have hM := HM.out p hlt
            rw [hM] at z1 z2
            have HA1 := Lib.hid hAo
            have HA2 := Lib.hid hA7
            have HA3 := Lib.hid hA9
            subst hAo hA7 hA9
            generalize plA o p = q at *
            have p2 : (0 : Int) ≤ (q : Int) := by omega
            have p3 : (q : Int) < (no : Int) := by omega
            clear hw hd hM
            go_wp2_with fail
            go_quiet (fail)
            go_wp2_with fail
            go_roundw
            case rel => exact ⟨p + 1, _, by omega, by go_num, by rw [HQQ.out]; exact World.drewN_drewN _ _ _⟩
            case measure => simp [intOf]; omega
          · have hpn : p = no := by omega
            subst hpn
            have Bw := Lib.hid (show Below w.heap.size w wr by rw [hw]; exact bdN' B10.out m)
            clear hlt hw
            go_wp2_with fail
            refine (HKn.out _).mono ?_
            rintro e wb ⟨rfl, hb⟩
            have Bb := Lib.hid (Bw.out.trans (hb.mono Bw.out.size))
            clear hb
            go_wp2_with fail
            go_ret
            exact ⟨rfl, Bb.out⟩
      case neg =>
        have e5 : (G == 0) = false := by rw [beq_eq_false_iff_ne]; exact hG
        clear hG
        go_wp2_with fail
        refine (HKn.out _).mono ?_
        rintro e wb ⟨rfl, hb⟩
        have Bb := Lib.hid (B10.out.trans (hb.mono B10.out.size))
        clear hb
        go_wp2_with fail
        go_ret
        exact ⟨rfl, Bb.out⟩
    case neg =>
      have e3 : (E == 0) = false := by rw [beq_eq_false_iff_ne]; exact hE
      clear hE
      by_cases hG : G = 0
      case pos =>
        obtain ⟨n, MZ, MX, hn5, od, y1, y2, y3, y4, y5, y6, y7⟩ := HY.out hG
        have e5 : (G == 0) = true := by rw [hG]; rfl
        have e6 : (I != 0) = false := by rw [y1]; rfl
        have e7 : (K != 0) = false := by rw [y2]; rfl
        have e8 : no = n := by rw [← HNo.out]; exact od.len
        have HOd := Lib.hid od
        have HM := Lib.hid y7
        have XR := Lib.hid (show Rd w9 w9.heap.size A7 (ints (rowF (pairF MX) (n * 2))) by rw [← y6]; exact RX9.out)
        have ZR := Lib.hid (show Rd w9 w9.heap.size A9 (ints (rowF (pairF MZ) (n * 2))) by rw [← y5]; exact RZ9.out)
        subst y3 y4 e8
        have e9 : ((no : Int) != (no : Int)) = false := by simp
        have e9' : (no != no) = false := by simp
        have q1 := fun a b W => rat_ne a b W
        have gd := guard_rat
        clear hG y1 y2 y5 y6 y7 od
        go_wp2_with fail
        go_loopw [19] (fun z wr => ∃ p m : Nat, p ≤ no ∧ z = .int .i64 (p : Int) ∧ wr = w9.drewN m) (fun z _ => no - (intOf z).toNat)
        case atStart => exact ⟨0, 0, by omega, rfl, rfl⟩
        case round =>
          obtain ⟨p, m, hp, rfl, hw⟩ := hrel
          have HQQ := Lib.hid hw
          by_cases hlt : p < no
          · have p0 : (0 : Int) ≤ (p : Int) := by omega
            have p1 : (p : Int) < (no : Int) := by omega
            obtain ⟨bo, oo, d, hAo, hd, hc⟩ := (show Rd wr wr.heap.size Ao (ints o) by rw [hw]; exact O9.out).int p (by rw [HNo.out]; exact hlt)
            obtain ⟨hpl, hpd⟩ := plA_lt HOd.out hlt
            rw [nth_get hd.out] at hpd
            subst hpd
            obtain ⟨b1, o1, hA7, x1, x2⟩ := rat_atd hlt (show Rd wr wr.heap.size A7 _ by rw [hw]; exact XR.out)
            obtain ⟨b2, o2, hA9, z1, z2⟩ := rat_atd hpl (show Rd wr wr.heap.size A9 _ by rw [hw]; exact ZR.out)
            have hM := HM.out p hlt
            rw [hM] at z1 z2
            have HA1 := Lib.hid hAo
            have HA2 := Lib.hid hA7
            have HA3 := Lib.hid hA9
            subst hAo hA7 hA9
            generalize plA o p = q at *
            have p2 : (0 : Int) ≤ (q : Int) := by omega
            have p3 : (q : Int) < (no : Int) := by omega
            clear hw hd hM
            go_wp2_with fail
            go_quiet (fail)
            go_wp2_with fail
            go_roundw
            case rel => exact ⟨p + 1, _, by omega, by go_num, by rw [HQQ.out]; exact World.drewN_drewN _ _ _⟩
            case measure => simp [intOf]; omega
          · have hpn : p = no := by omega
            subst hpn
            have Bw := Lib.hid (show Below w.heap.size w wr by rw [hw]; exact bdN' B9.out m)
            clear hlt hw
            go_wp2_with fail
            refine (HKn.out _).mono ?_
            rintro e wb ⟨rfl, hb⟩
            have Bb := Lib.hid (Bw.out.trans (hb.mono Bw.out.size))
            clear hb
            go_wp2_with fail
            go_ret
            exact ⟨rfl, Bb.out⟩
      case neg =>
        have e5 : (G == 0) = false := by rw [beq_eq_false_iff_ne]; exact hG
        clear hG
        go_wp2_with fail
        refine (HKn.out _).mono ?_
        rintro e wb ⟨rfl, hb⟩
        have Bb := Lib.hid (B9.out.trans (hb.mono B9.out.size))
        clear hb
        go_wp2_with fail
        go_ret
        exact ⟨rfl, Bb.out⟩
end Go.Proofs.Ytfmhanpibgmgfaa

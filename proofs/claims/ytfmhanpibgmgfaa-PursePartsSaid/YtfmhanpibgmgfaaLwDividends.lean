/-
  The walk of the law PurseDividends: it returns true. Conditions: the lists can be read.
-/
import Derived.Test.YtfmhanpibgmgfaaPuk
import Derived.Test.YtfmhanpibgmgfaaPd5
namespace Go.Proofs.Ytfmhanpibgmgfaa
open Go.RowKit
set_option linter.unusedVariables false

theorem dvl_len (v : List Int) : (dvL v).length = dvLen v := by
  unfold dvL dvLen
  split
  · rw [rowF_len]
  · rfl
theorem fdl_len (v : List Int) : (fdL v).length = fdLen v := by
  unfold fdL fdLen
  split
  · rw [rowF_len]
  · rfl
theorem dvl_small (v : List Int) : dvLen v ≤ 32 := by
  unfold dvLen
  split
  · rename_i h
    obtain ⟨n, pv, _⟩ := vdE_pv h
    exact pv.le
  · omega
theorem fd_fg {v : List Int} (h : fdE v = 0) : fgB v 1000000 = true ∧ upB 1000 (rowF (fdG v) v.length) = true := by
  unfold fdE at h
  split at h
  · rename_i h1
    split at h
    · rename_i h2
      exact ⟨h1, h2⟩
    · cases h
  · cases h
theorem fdl_small (v : List Int) : fdLen v ≤ 32 := by
  unfold fdLen
  split
  · rename_i h
    obtain ⟨n, pv, _⟩ := fgB_pv (fd_fg h).1
    exact pv.le
  · omega
theorem nth_row {F : Nat → Int} {n g : Nat} (h : g < n) : nth (rowF F n) g = F g := nth_get (rowF_get h)
theorem tf_zero (f : Nat → Int) (s : Int) : ∀ n, tfF f s n 0 = f 0
  | 0 => rfl
  | n + 1 => by
    show stepF s n (tfF f s n) 0 = f 0
    unfold stepF
    rw [if_neg (by simp)]
    exact tf_zero f s n
theorem row_self (v : List Int) : rowF (nth v) v.length = v := by
  refine List.ext_getElem? fun j => ?_
  by_cases h : j < v.length
  · rw [rowF_get h, get_nth h]
  · rw [List.getElem?_eq_none (by rw [rowF_len]; omega), List.getElem?_eq_none (by omega)]
theorem tf_back {l : List Int} {n : Nat} (s : Int) (pv : Pv l n) : rowF (tfF (nth (rowF (tfF (nth l) s n) l.length)) (-s) n) l.length = l := by
  have h1 : ∀ g, g < l.length → tfF (nth (rowF (tfF (nth l) s n) l.length)) (-s) n g = nth l g := fun g hg => by
    have h2 := tf_congr (f := nth (rowF (tfF (nth l) s n) l.length)) (f' := tfF (nth l) s n) (s := -s) (n := n) (fun g hg => nth_row (by rw [pv.len]; exact hg)) n (Nat.le_refl _) g (by rw [← pv.len]; exact hg)
    rw [h2, tf_inv]
  rw [rowF_congr (G := nth l) (fun p hp => h1 p hp), row_self]
theorem pv_len {l : List Int} {n : Nat} (pv : Pv l n) (l' : List Int) (hl : l'.length = l.length) (h0 : nth l' 0 = 0) (m : Int) (hup : upB m l' = true) : fgB l' m = true := by
  rw [fg_yes pv.one pv.five (by rw [hl, pv.len]), hup, h0]
  rfl
theorem up_row {F : Nat → Int} {n : Nat} {m : Int} (h : ∀ g, -m ≤ F g ∧ F g ≤ m) : upB m (rowF F n) = true := by
  unfold upB
  rw [List.all_eq_true]
  intro x hx
  obtain ⟨i, hi, e⟩ := List.mem_iff_getElem.1 hx
  rw [rowF_len] at hi
  have h1 := nth_row (F := F) hi
  have h2 : nth (rowF F n) i = x := nth_get (by rw [List.getElem?_eq_getElem (by rw [rowF_len]; exact hi), e])
  have := h i
  rw [← h1, h2] at this
  exact inUp_iff.2 this
theorem fd_dv {v : List Int} (h : vdE v = 0) : fdE (dvL v) = 0 ∧ fdLen (dvL v) = v.length ∧ fdL (dvL v) = v := by
  obtain ⟨n, pv, hup⟩ := vdE_pv h
  have k2 : dvL v = rowF (tfF (nth v) (-1) n) v.length := by unfold dvL dvG; rw [if_pos h, pv.pl]
  have hle := tf_32 (f := nth v) (s := -1) (n := n) (.inr rfl) pv.five (fun g => by have := upB_nth hup (by omega) g; omega)
  have hle2 : ∀ g, -1000000 ≤ tfF (nth v) (-1) n g ∧ tfF (nth v) (-1) n g ≤ 1000000 := fun g => by
    have h1 := tf_le (M := 1000) (s := -1) (.inr rfl) (fun g => upB_nth hup (by omega) g) n g
    have h2 : (2 : Int) ^ n ≤ 32 := by
      have : (2 : Nat) ^ n ≤ 2 ^ 5 := Nat.pow_le_pow_right (by omega) pv.five
      have e : ((2 ^ n : Nat) : Int) = (2 : Int) ^ n := by simp
      rw [← e]
      exact Int.ofNat_le.2 this
    generalize (2 : Int) ^ n = z at *
    omega
  have hl0 : 0 < v.length := by rw [pv.len]; exact Nat.two_pow_pos n
  have hfg : fgB (dvL v) 1000000 = true := by
    rw [k2]
    exact pv_len pv _ (rowF_len _ _) (by rw [nth_row hl0, tf_zero, pv.zero]) _ (up_row hle2)
  have hlen : (dvL v).length = v.length := by rw [k2, rowF_len]
  have hG : rowF (fdG (dvL v)) v.length = v := by
    unfold fdG
    rw [hlen, pv.pl, k2]
    exact tf_back (-1) pv
  have hE : fdE (dvL v) = 0 := by
    unfold fdE
    rw [if_pos hfg, hlen, hG, if_pos hup]
  exact ⟨hE, by unfold fdLen; rw [if_pos hE, hlen], by unfold fdL; rw [if_pos hE, hlen, hG]⟩
theorem dv_fd {d : List Int} (h : fdE d = 0) : vdE (fdL d) = 0 ∧ dvLen (fdL d) = d.length ∧ dvL (fdL d) = d := by
  obtain ⟨hfg, hu⟩ := fd_fg h
  obtain ⟨n, pv, hup⟩ := fgB_pv hfg
  have k2 : fdL d = rowF (tfF (nth d) 1 n) d.length := by unfold fdL fdG; rw [if_pos h, pv.pl]
  have hl0 : 0 < d.length := by rw [pv.len]; exact Nat.two_pow_pos n
  have hlen : (fdL d).length = d.length := by rw [k2, rowF_len]
  have hE : vdE (fdL d) = 0 := by
    unfold vdE
    rw [if_pos]
    unfold fdG at hu
    rw [pv.pl] at hu
    rw [k2]
    exact pv_len pv _ (rowF_len _ _) (by rw [nth_row hl0, tf_zero, pv.zero]) _ hu
  have hG : rowF (dvG (fdL d)) d.length = d := by
    unfold dvG
    rw [hlen, pv.pl, k2]
    exact tf_back 1 pv
  exact ⟨hE, by unfold dvLen; rw [if_pos hE, hlen], by unfold dvL; rw [if_pos hE, hlen, hG]⟩
theorem Rd.step {w w' : World} {A : Option Addr} {xs : List Value} (h : Rd w w.heap.size A xs) (hb : Below w.heap.size w w') : Rd w' w'.heap.size A xs := (h.below hb (Nat.le_refl _)).more hb.size
set_option maxRecDepth 8000 in
set_option maxHeartbeats 8000000 in
theorem PurseDividends_walk (Av : Option Addr) (v : List Int) (cv : Nat) (Au : Option Addr) (u : List Int) (cu : Nat) (hl : v.length ≤ 9223372036854775807) (hlu : u.length ≤ 9223372036854775807) (w : World) (hrv : Rd w w.heap.size Av (ints v)) (hru : Rd w w.heap.size Au (ints u)) :
    Calls Try.prog 5 #[.slice Av v.length cv, .slice Au u.length cu] w fun e w' => e = .returned (.bool true) ∧ Below w.heap.size w w' := by
  have HLo := Lib.hid (long_any Av Au v.length cv u.length cu hl hlu w)
  have HKn := Lib.hid (fun w => known_any w)
  have HD1 := Lib.hid (Dividends_any Av v cv hl w hrv)
  have HD2 := Lib.hid (fun w h => rDividends_any Av v cv hl w h)
  have HF1 := Lib.hid (fun w h => FromDividends_any Au u cu hlu w h)
  have HF2 := Lib.hid (fun w h => rFromDividends_any Au u cu hlu w h)
  have HSa := Lib.hid (fun A A' c c' w h h' => SameInts_same A A' (dvLen v) c c' (dvL v) (dvl_len v) (by have := dvl_small v; omega) w h h')
  have HSc := Lib.hid (fun A A' c c' w h h' => SameInts_same A A' (fdLen u) c c' (fdL u) (fdl_len u) (by have := fdl_small u; omega) w h h')
  have HBk := Lib.hid (fun A c w h => FromDividends_any A (dvL v) c (by rw [dvl_len]; have := dvl_small v; omega) w h)
  have HAg := Lib.hid (fun A c w h => Dividends_any A (fdL u) c (by rw [fdl_len]; have := fdl_small u; omega) w h)
  rw [dvl_len] at HBk
  rw [fdl_len] at HAg
  have HX := Lib.hid (fun h => fd_dv (v := v) h)
  have HY := Lib.hid (fun h => dv_fd (d := u) h)
  have HSv := Lib.hid (fun (h : vdE v = 0) A A' c c' w h1 h2 => SameInts_same A A' v.length c c' v rfl (by obtain ⟨n, pv, _⟩ := vdE_pv h; have := pv.le; omega) w h1 h2)
  have HSu := Lib.hid (fun (h : fdE u = 0) A A' c c' w h1 h2 => SameInts_same A A' u.length c c' u rfl (by obtain ⟨n, pv, _⟩ := fgB_pv (fd_fg h).1; have := pv.le; omega) w h1 h2)
  have HRu := Lib.hid hru
  have HRv := Lib.hid hrv
  generalize fdE (dvL v) = E2 at *
  generalize fdLen (dvL v) = N2 at *
  generalize fdL (dvL v) = L2 at *
  generalize vdE (fdL u) = G2 at *
  generalize dvLen (fdL u) = M2 at *
  generalize dvL (fdL u) = K2 at *
  generalize vdE v = E at *
  generalize fdE u = G at *
  generalize dvLen v = N1 at *
  generalize dvL v = L1 at *
  generalize fdLen u = M1 at *
  generalize fdL u = K1 at *
  generalize hlo : (decide (200 < v.length) || decide (200 < u.length)) = lo at *
  generalize v.length = nv at *
  generalize u.length = nu at *
  clear hrv hru hlo
  cases lo
  case true =>
    go_enter Try.func5, Try.ntmps5
    go_wp2_with fail
    refine HLo.out.mono ?_
    rintro e w' ⟨rfl, rfl⟩
    go_wp2_with fail
    refine (HKn.out _).mono ?_
    rintro e w' ⟨rfl, hb⟩
    have HB2 := Lib.hid hb
    clear hb
    go_wp2_with fail
    go_ret
    exact ⟨rfl, HB2.out⟩
  case false =>
    have e1 : (E != E) = false := by simp
    have e2 : (G != G) = false := by simp
    go_enter Try.func5, Try.ntmps5
    go_wp2_with fail
    refine HLo.out.mono ?_
    rintro e w' ⟨rfl, rfl⟩
    go_wp2_with fail
    refine HD1.out.mono ?_
    rintro e w1 ⟨A1, c1, rfl, hrd, hb⟩
    have B1 := Lib.hid hb
    have V1 := Lib.hid (HRv.out.step hb)
    have U1 := Lib.hid (HRu.out.step hb)
    have RA1 := Lib.hid hrd
    clear hb hrd
    go_wp2_with fail
    refine (HD2.out w1 V1.out).mono ?_
    rintro e w2 ⟨A2, c2, rfl, hrd, hb⟩
    have B2 := Lib.hid (B1.out.trans (hb.mono B1.out.size))
    have V2 := Lib.hid (V1.out.step hb)
    have U2 := Lib.hid (U1.out.step hb)
    have RA2 := Lib.hid (RA1.out.step hb)
    have RB2 := Lib.hid hrd
    clear hb hrd
    go_wp2_with fail
    refine (HF1.out w2 U2.out).mono ?_
    rintro e w3 ⟨A3, c3, rfl, hrd, hb⟩
    have B3 := Lib.hid (B2.out.trans (hb.mono B2.out.size))
    have V3 := Lib.hid (V2.out.step hb)
    have U3 := Lib.hid (U2.out.step hb)
    have RA3 := Lib.hid (RA2.out.step hb)
    have RB3 := Lib.hid (RB2.out.step hb)
    have RC3 := Lib.hid hrd
    clear hb hrd
    go_wp2_with fail
    refine (HF2.out w3 U3.out).mono ?_
    rintro e w4 ⟨A4, c4, rfl, hrd, hb⟩
    have B4 := Lib.hid (B3.out.trans (hb.mono B3.out.size))
    have V4 := Lib.hid (V3.out.step hb)
    have U4 := Lib.hid (U3.out.step hb)
    have RA4 := Lib.hid (RA3.out.step hb)
    have RB4 := Lib.hid (RB3.out.step hb)
    have RC4 := Lib.hid (RC3.out.step hb)
    have RD4 := Lib.hid hrd
    clear hb hrd
    go_wp2_with fail
    refine (HSa.out A1 A2 c1 c2 w4 RA4.out RB4.out).mono ?_
    rintro e w5 ⟨rfl, m5, hw⟩
    have hb : Below w4.heap.size w4 w5 := by rw [hw]; exact bdN' (Below.refl _ _) m5
    have B5 := Lib.hid (B4.out.trans (hb.mono B4.out.size))
    have V5 := Lib.hid (V4.out.step hb)
    have U5 := Lib.hid (U4.out.step hb)
    have RA5 := Lib.hid (RA4.out.step hb)
    have RC5 := Lib.hid (RC4.out.step hb)
    have RD5 := Lib.hid (RD4.out.step hb)
    clear hb hw
    go_wp2_with fail
    refine (HSc.out A3 A4 c3 c4 w5 RC5.out RD5.out).mono ?_
    rintro e w6 ⟨rfl, m6, hw⟩
    have hb : Below w5.heap.size w5 w6 := by rw [hw]; exact bdN' (Below.refl _ _) m6
    have B6 := Lib.hid (B5.out.trans (hb.mono B5.out.size))
    have V6 := Lib.hid (V5.out.step hb)
    have U6 := Lib.hid (U5.out.step hb)
    have RA6 := Lib.hid (RA5.out.step hb)
    have RC6 := Lib.hid (RC5.out.step hb)
    clear hb hw
    go_wp2_with fail
    refine (HBk.out A1 c1 w6 RA6.out).mono ?_
    rintro e w7 ⟨A7, c7, rfl, hrd, hb⟩
    have B7 := Lib.hid (B6.out.trans (hb.mono B6.out.size))
    have V7 := Lib.hid (V6.out.step hb)
    have U7 := Lib.hid (U6.out.step hb)
    have RC7 := Lib.hid (RC6.out.step hb)
    have RE7 := Lib.hid hrd
    clear hb hrd
    go_wp2_with fail
    refine (HAg.out A3 c3 w7 RC7.out).mono ?_
    rintro e w8 ⟨A8, c8, rfl, hrd, hb⟩
    have B8 := Lib.hid (B7.out.trans (hb.mono B7.out.size))
    have V8 := Lib.hid (V7.out.step hb)
    have U8 := Lib.hid (U7.out.step hb)
    have RE8 := Lib.hid (RE7.out.step hb)
    have RF8 := Lib.hid hrd
    clear hb hrd
    by_cases hE : E = 0
    case pos =>
      obtain ⟨x1, x2, x3⟩ := HX.out hE
      have S1 := Lib.hid (HSv.out hE A7 Av c7 cv w8 (by rw [← x3]; exact RE8.out) V8.out)
      have e3 : (E != 0) = false := by rw [hE]; rfl
      have e4 : (E2 == 0) = true := by rw [x1]; rfl
      subst x2
      clear hE x1 x3
      go_wp2_with fail
      refine S1.out.mono ?_
      rintro e w9 ⟨rfl, m9, hw⟩
      have hb : Below w8.heap.size w8 w9 := by rw [hw]; exact bdN' (Below.refl _ _) m9
      have B9 := Lib.hid (B8.out.trans (hb.mono B8.out.size))
      have U9 := Lib.hid (U8.out.step hb)
      have RF9 := Lib.hid (RF8.out.step hb)
      clear hb hw
      by_cases hG : G = 0
      case pos =>
        obtain ⟨y1, y2, y3⟩ := HY.out hG
        have S2 := Lib.hid (HSu.out hG A8 Au c8 cu w9 (by rw [← y3]; exact RF9.out) U9.out)
        have e5 : (G != 0) = false := by rw [hG]; rfl
        have e6 : (G2 == 0) = true := by rw [y1]; rfl
        subst y2
        clear hG y1 y3
        go_wp2_with fail
        refine S2.out.mono ?_
        rintro e wa ⟨rfl, ma, hw⟩
        have hb : Below w9.heap.size w9 wa := by rw [hw]; exact bdN' (Below.refl _ _) ma
        have Ba := Lib.hid (B9.out.trans (hb.mono B9.out.size))
        clear hb hw
        go_wp2_with fail
        refine (HKn.out _).mono ?_
        rintro e wb ⟨rfl, hb⟩
        have Bb := Lib.hid (Ba.out.trans (hb.mono Ba.out.size))
        clear hb
        go_wp2_with fail
        go_ret
        exact ⟨rfl, Bb.out⟩
      case neg =>
        have e5 : (G != 0) = true := by simpa using hG
        clear hG
        go_wp2_with fail
        refine (HKn.out _).mono ?_
        rintro e wb ⟨rfl, hb⟩
        have Bb := Lib.hid (B9.out.trans (hb.mono B9.out.size))
        clear hb
        go_wp2_with fail
        go_ret
        exact ⟨rfl, Bb.out⟩
    case neg =>
      have e3 : (E != 0) = true := by simpa using hE
      clear hE
      by_cases hG : G = 0
      case pos =>
        obtain ⟨y1, y2, y3⟩ := HY.out hG
        have S2 := Lib.hid (HSu.out hG A8 Au c8 cu w8 (by rw [← y3]; exact RF8.out) U8.out)
        have e5 : (G != 0) = false := by rw [hG]; rfl
        have e6 : (G2 == 0) = true := by rw [y1]; rfl
        subst y2
        clear hG y1 y3
        go_wp2_with fail
        refine S2.out.mono ?_
        rintro e wa ⟨rfl, ma, hw⟩
        have hb : Below w8.heap.size w8 wa := by rw [hw]; exact bdN' (Below.refl _ _) ma
        have Ba := Lib.hid (B8.out.trans (hb.mono B8.out.size))
        clear hb hw
        go_wp2_with fail
        refine (HKn.out _).mono ?_
        rintro e wb ⟨rfl, hb⟩
        have Bb := Lib.hid (Ba.out.trans (hb.mono Ba.out.size))
        clear hb
        go_wp2_with fail
        go_ret
        exact ⟨rfl, Bb.out⟩
      case neg =>
        have e5 : (G != 0) = true := by simpa using hG
        clear hG
        go_wp2_with fail
        refine (HKn.out _).mono ?_
        rintro e wb ⟨rfl, hb⟩
        have Bb := Lib.hid (B8.out.trans (hb.mono B8.out.size))
        clear hb
        go_wp2_with fail
        go_ret
        exact ⟨rfl, Bb.out⟩
end Go.Proofs.Ytfmhanpibgmgfaa

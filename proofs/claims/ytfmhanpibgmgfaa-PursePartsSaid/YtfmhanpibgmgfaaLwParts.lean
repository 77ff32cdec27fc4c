/-
  The walk of the law PurseParts: it returns true. Conditions: the list can be read.
-/
import Derived.Test.YtfmhanpibgmgfaaPuk
import Derived.Test.YtfmhanpibgmgfaaLwAdds
import Derived.Test.YtfmhanpibgmgfaaLwDividends
import Derived.Test.YtfmhanpibgmgfaaPp1
namespace Go.Proofs.Ytfmhanpibgmgfaa
open Go.RowKit
set_option linter.unusedVariables false

def szF (g : Nat) : Nat → Nat
  | 0 => 0
  | i + 1 => szF g i + (if g.testBit i = true then 1 else 0)
theorem sz_pop : ∀ n : Fin 6, ∀ g : Fin 32, g.val < 2 ^ n.val → szF g.val n.val = popN g.val := by decide +kernel
theorem sz_le (g : Nat) : ∀ i, szF g i ≤ i
  | 0 => Nat.le_refl _
  | i + 1 => by
    have := sz_le g i
    show szF g i + (if g.testBit i = true then 1 else 0) ≤ i + 1
    split <;> omega
theorem pop_pos : ∀ g : Fin 32, ∀ p : Fin 5, g.val.testBit p.val = true → 1 ≤ popN g.val := by decide +kernel
theorem and_bit {g p : Nat} (hg : g < 9223372036854775808) : bits .and .i64 ((g : Int) / (2 : Int) ^ p) 1 = if g.testBit p = true then 1 else 0 := by
  have h1 : ((g : Int) / (2 : Int) ^ p) = ((g / 2 ^ p : Nat) : Int) := by simp
  rw [h1, and_1 (Nat.lt_of_le_of_lt (Nat.div_le_self _ _) hg), bit_div]
  cases g.testBit p <;> rfl
theorem par_le {d : Nat → Int} (hd : ∀ g, -32000 ≤ d g ∧ d g ≤ 32000) {n p g : Nat} (hn : n ≤ 5) (hp : p < n) (hg : g < 2 ^ n) : -1920000 ≤ parG d p g ∧ parG d p g ≤ 1920000 := by
  have h32 : 2 ^ n ≤ 2 ^ 5 := Nat.pow_le_pow_right (by omega) hn
  unfold parG
  split
  · rename_i h
    have h1 := pop_pos ⟨g, by omega⟩ ⟨p, by omega⟩ h
    simp only at h1
    have h2 : 0 ≤ Int.tdiv 60 (popN g : Int) ∧ Int.tdiv 60 (popN g : Int) ≤ 60 := ⟨Int.tdiv_nonneg (by omega) (by omega), Int.le_trans (Int.tdiv_le_self _ (by omega)) (by omega)⟩
    have := mul_le (A := 32000) (B := 60) (u := d g) (v := Int.tdiv 60 (popN g : Int)) (hd g) (by omega)
    omega
  · omega
theorem pars_le {d : Nat → Int} (hd : ∀ g, -32000 ≤ d g ∧ d g ≤ 32000) {n p k : Nat} (hn : n ≤ 5) (hp : p < n) (hk : k ≤ 2 ^ n) : -61440000 ≤ sI (parG d p) k ∧ sI (parG d p) k ≤ 61440000 := by
  have h32 : 2 ^ n ≤ 2 ^ 5 := Nat.pow_le_pow_right (by omega) hn
  have h1 := sI_abs (f := parG d p) (B := 1920000) (n := k) (fun i hi => par_le hd hn hp (by omega))
  omega
theorem tf_32000 {v : List Int} {n : Nat} (hn : n ≤ 5) (hup : upB 1000 v = true) : ∀ g, -32000 ≤ tfF (nth v) (-1) n g ∧ tfF (nth v) (-1) n g ≤ 32000 := fun g => by
  have h1 := tf_le (M := 1000) (s := -1) (.inr rfl) (fun g => upB_nth hup (by omega) g) n g
  have h2 : (2 : Int) ^ n ≤ 32 := by
    have : (2 : Nat) ^ n ≤ 2 ^ 5 := Nat.pow_le_pow_right (by omega) hn
    have e : ((2 ^ n : Nat) : Int) = (2 : Int) ^ n := by simp
    rw [← e]
    exact Int.ofNat_le.2 this
  generalize (2 : Int) ^ n = z at *
  omega
set_option maxRecDepth 8000 in
set_option maxHeartbeats 8000000 in
theorem PurseParts_walk (Av : Option Addr) (v : List Int) (cv : Nat) (hl : v.length ≤ 9223372036854775807) (w : World) (hrv : Rd w w.heap.size Av (ints v)) :
    Calls Try.prog 6 #[.slice Av v.length cv] w fun e w' => e = .returned (.bool true) ∧ Below w.heap.size w w' := by
  have HLo := Lib.hid (long_any Av none v.length cv 0 0 hl (by omega) w)
  have HKn := Lib.hid (fun w => known_any w)
  have HS1 := Lib.hid (Shapley_any Av v cv hl w hrv)
  have HD1 := Lib.hid (fun w h => Dividends_any Av v cv hl w h)
  have HRv := Lib.hid hrv
  obtain ⟨nv, hnv⟩ : ∃ nv, v.length = nv := ⟨_, rfl⟩
  have HNv := Lib.hid hnv
  rw [hnv] at HLo HS1 HD1 ⊢
  generalize hlo : (decide (200 < nv) || decide (200 < 0)) = lo at *
  clear hrv hlo hl hnv
  cases lo
  case true =>
    go_enter Try.func6, Try.ntmps6
    go_wp2_with fail
    refine HLo.out.mono ?_
    rintro e w' ⟨rfl, rfl⟩
    go_wp2_with fail
    refine (HKn.out _).mono ?_
    rintro e w' ⟨rfl, hb⟩
    have HB2 := Lib.hid hb
    clear hb
    go_wp2_with fail
    go_ret
    exact ⟨rfl, HB2.out⟩
  case false =>
    by_cases ho : vdE v = 0
    case neg =>
      obtain ⟨E, hE⟩ : ∃ E, vdE v = E := ⟨_, rfl⟩
      rw [hE] at HS1 HD1 ho
      have e1 : (E != E) = false := by simp
      have e5 : (E != 0) = true := by rw [bne_iff_ne]; exact ho
      clear hE ho
      go_enter Try.func6, Try.ntmps6
      go_wp2_with fail
      refine HLo.out.mono ?_
      rintro e w' ⟨rfl, rfl⟩
      go_wp2_with fail
      refine HS1.out.mono ?_
      rintro e w1 ⟨A1, c1, rfl, hrd, hb⟩
      have B1 := Lib.hid hb
      have V1 := Lib.hid (HRv.out.step hb)
      clear hb hrd
      go_wp2_with fail
      refine (HD1.out w1 V1.out).mono ?_
      rintro e w2 ⟨A2, c2, rfl, hrd, hb⟩
      have B2 := Lib.hid (B1.out.trans (hb.mono B1.out.size))
      clear hb hrd
      go_wp2_with fail
      refine (HKn.out _).mono ?_
      rintro e w7 ⟨rfl, hb⟩
      have B7 := Lib.hid (B2.out.trans (hb.mono B2.out.size))
      clear hb
      go_wp2_with fail
      go_ret
      exact ⟨rfl, B7.out⟩
    case pos =>
      obtain ⟨n, pv, hup⟩ := vdE_pv ho
      have mv : mnLen v = n ∧ mnL v wS = rowF (pairF (meanF v wS n)) (n * 2) := ⟨by unfold mnLen; rw [if_pos ho, pv.pl], by unfold mnL; rw [if_pos ho, pv.pl]⟩
      have hlv : nv = 2 ^ n := by rw [← HNv.out]; exact pv.len
      have md : dvLen v = 2 ^ n ∧ dvL v = rowF (tfF (nth v) (-1) n) (2 ^ n) := ⟨by unfold dvLen; rw [if_pos ho, pv.len], by unfold dvL dvG; rw [if_pos ho, pv.pl, pv.len]⟩
      rw [ho, mv.1, mv.2] at HS1
      rw [ho, md.1, md.2] at HD1
      have hn5 := pv.five
      have HT := Lib.hid (fun p (hp : p < n) => par_test (v := v) hn5 hp)
      have HDl := Lib.hid (tf_32000 (v := v) hn5 hup)
      have HX := Lib.hid (fun p (hp : p < n) => sh_120 (v := v) hn5 hp)
      generalize tfF (nth v) (-1) n = D at *
      have HPl := Lib.hid (fun p k (hp : p < n) (hk : k ≤ 2 ^ n) => pars_le HDl.out hn5 hp hk)
      have HSz := Lib.hid (fun g (hg : g < 2 ^ n) => sz_pop ⟨n, by omega⟩ ⟨g, by have : 2 ^ n ≤ 2 ^ 5 := Nat.pow_le_pow_right (by omega) hn5; omega⟩ hg)
      simp only at HSz
      have h6 := pow5 (p := n) (by omega)
      have hcast : ((2 ^ n : Nat) : Int) = (2 : Int) ^ n := by simp
      have hwr : wrap64 ((2 : Int) ^ n) = ((2 ^ n : Nat) : Int) := by rw [← hcast]; unfold wrap64; omega
      have hcv : IntKind.u64.wrap (n : Int) = (n : Int) := by rw [IntKind.wrap_u64]; omega
      have e6 : (((2 ^ n : Nat) : Int) != ((2 ^ n : Nat) : Int)) = false := by simp
      have e6' : ((2 ^ n : Nat) != (2 ^ n : Nat)) = false := by simp
      obtain ⟨L, hL⟩ : ∃ L : Nat, L = 2 ^ n := ⟨_, rfl⟩
      rw [← hL] at HD1 HT HPl HSz h6 hwr e6 e6'
      have HL := Lib.hid hL
      clear pv hup mv md hlv ho hcast hL
      go_enter Try.func6, Try.ntmps6
      go_wp2_with fail
      refine HLo.out.mono ?_
      rintro e w' ⟨rfl, rfl⟩
      go_wp2_with fail
      refine HS1.out.mono ?_
      rintro e w1 ⟨A1, c1, rfl, hrd, hb⟩
      have B1 := Lib.hid hb
      have V1 := Lib.hid (HRv.out.step hb)
      have X1 := Lib.hid hrd
      clear hb hrd
      go_wp2_with fail
      refine (HD1.out w1 V1.out).mono ?_
      rintro e w2 ⟨A2, c2, rfl, hrd, hb⟩
      have B2 := Lib.hid (B1.out.trans (hb.mono B1.out.size))
      have X2 := Lib.hid (X1.out.step hb)
      have D2 := Lib.hid hrd
      clear hb hrd
      go_wp2_with fail
      clear hwr
      go_loopw [7] (fun z wr => ∃ p m : Nat, p ≤ n ∧ z = .int .i64 (p : Int) ∧ wr = w2.drewN m) (fun z _ => n - (intOf z).toNat)
      case atStart => exact ⟨0, 0, by omega, rfl, rfl⟩
      case round =>
        obtain ⟨p, m, hp, rfl, hw⟩ := hrel
        by_cases hlt : p < n
        · have HWW := Lib.hid hw
          have p0 : (0 : Int) ≤ (p : Int) := by omega
          have p1 : (p : Int) < (n : Int) := by omega
          have hcp : IntKind.u64.wrap (p : Int) = (p : Int) := by rw [IntKind.wrap_u64]; omega
          have hp7 : decide ((p : Int) < 0) = false := decide_eq_false (by omega)
          clear hw
          obtain ⟨wo, rfl⟩ : ∃ wo : World, wo = wr := ⟨_, rfl⟩
          go_wp2_with fail
          go_loopw [8, 9] (fun s z wr => ∃ g m : Nat, g ≤ L ∧ s = .int .i64 (sI (parG D p) g) ∧ z = .int .i64 (g : Int) ∧ wr = w2.drewN m) (fun _ z _ => L - (intOf z).toNat)
          case atStart => exact ⟨0, m, by omega, rfl, rfl, HWW.out⟩
          case round =>
            obtain ⟨g, m, hg, rfl, rfl, hw⟩ := hrel
            by_cases hlt2 : g < L
            · have HW2 := Lib.hid hw
              have g0 : (0 : Int) ≤ (g : Int) := by omega
              have g1 : (g : Int) < (L : Int) := by omega
              have HSg := Lib.hid (HSz.out g hlt2)
              clear hw
              obtain ⟨wo2, rfl⟩ : ∃ wo2 : World, wo2 = wr := ⟨_, rfl⟩
              go_wp2_with fail
              go_loopw [10, 11] (fun s z wx => ∃ i : Nat, i ≤ n ∧ s = .int .i64 ((szF g i : Nat) : Int) ∧ z = .int .i64 (i : Int) ∧ wx = wo2) (fun _ z _ => n - (intOf z).toNat)
              case atStart => exact ⟨0, by omega, rfl, rfl, rfl⟩
              case round =>
                obtain ⟨i, hi, rfl, rfl, hwx⟩ := hrel
                subst hwx
                by_cases hlt3 : i < n
                · have i0 : (0 : Int) ≤ (i : Int) := by omega
                  have i1 : (i : Int) < (n : Int) := by omega
                  have hci : IntKind.u64.wrap (i : Int) = (i : Int) := by rw [IntKind.wrap_u64]; omega
                  have hi7 : decide ((i : Int) < 0) = false := decide_eq_false (by omega)
                  have hand := and_bit (g := g) (p := i) (by omega)
                  have hz := sz_le g i
                  have hnx : szF g (i + 1) = szF g i + (if g.testBit i = true then 1 else 0) := rfl
                  have HN := Lib.hid (show ((szF g i : Nat) : Int) + (if g.testBit i = true then 1 else 0) = ((szF g (i + 1) : Nat) : Int) by
                    rw [hnx]
                    split <;> simp)
                  have q1 : wrap64 (((szF g i : Nat) : Int) + (if g.testBit i = true then 1 else 0)) = ((szF g (i + 1) : Nat) : Int) := by
                    rw [HN.out]
                    have hz1 := sz_le g (i + 1)
                    unfold wrap64
                    omega
                  have q2 : IntKind.i64.wrap (((szF g i : Nat) : Int) + (if g.testBit i = true then 1 else 0)) = ((szF g (i + 1) : Nat) : Int) := by
                    rw [IntKind.wrap_i64]
                    have := q1
                    unfold wrap64 at this
                    omega
                  have HQ := Lib.hid q1
                  clear hz hnx
                  generalize (if g.testBit i = true then (1 : Int) else 0) = bt at *
                  go_wp2_with fail
                  go_roundw
                  case rel => exact ⟨i + 1, by omega, by first | rfl | (rw [HQ.out] <;> rfl), by go_num, trivial⟩
                  case measure => simp [intOf]; omega
                · have hin : i = n := by omega
                  subst hin
                  have hhas := has_bit (g := g) (p := p) (by omega)
                  have hnx : sI (parG D p) (g + 1) = sI (parG D p) g + parG D p g := rfl
                  have hbnd := HPl.out p (g + 1) hlt (by omega)
                  rw [HSg.out]
                  cases ht : g.testBit p
                  · have hz : sI (parG D p) (g + 1) = sI (parG D p) g := by
                      rw [hnx]
                      unfold parG
                      rw [if_neg (by rw [ht]; simp)]
                      omega
                    have HZ := Lib.hid hz
                    rw [ht] at hhas
                    clear hnx hbnd hz ht hlt3
                    go_wp2_with fail
                    go_roundw
                    case rel => exact ⟨g + 1, _, by omega, by rw [HZ.out], by go_num, HW2.out⟩
                    case measure => simp [intOf]; omega
                  · obtain ⟨b2, o2, x, hA2, hx, hcx⟩ := (show Rd wr wr.heap.size A2 (ints (rowF D L)) by rw [HW2.out]; exact D2.out).int g (by rw [rowF_len]; exact hlt2)
                    have HA2 := Lib.hid hA2
                    subst hA2
                    have hxD : D g = x := by
                      have := nth_get hx.out
                      rw [nth_row hlt2] at this
                      exact this
                    have hpos := pop_pos ⟨g, by have := HL.out; have : 2 ^ i ≤ 2 ^ 5 := Nat.pow_le_pow_right (by omega) hn5; omega⟩ ⟨p, by omega⟩ ht
                    simp only at hpos
                    have hz : sI (parG D p) (g + 1) = sI (parG D p) g + x * Int.tdiv 60 (popN g : Int) := by
                      rw [hnx]
                      unfold parG
                      rw [if_pos ht, hxD]
                    have hb0 := HPl.out p g hlt (by omega)
                    have hDl := HDl.out g
                    rw [hxD] at hDl
                    have h2 : 0 ≤ Int.tdiv 60 (popN g : Int) ∧ Int.tdiv 60 (popN g : Int) ≤ 60 := ⟨Int.tdiv_nonneg (by omega) (by omega), Int.le_trans (Int.tdiv_le_self _ (by omega)) (by omega)⟩
                    have hm := mul_le (A := 32000) (B := 60) (u := x) (v := Int.tdiv 60 (popN g : Int)) hDl (by omega)
                    have n1 : ((popN g : Nat) : Int) ≠ 0 := by omega
                    have n2 : popN g ≠ 0 := by omega
                    have f1 : (((popN g : Nat) : Int) == 0) = false := by rw [beq_eq_false_iff_ne]; omega
                    have f2 : (popN g == 0) = false := by rw [beq_eq_false_iff_ne]; omega
                    have q1 : IntKind.i64.wrap (Int.tdiv 60 (popN g : Int)) = Int.tdiv 60 (popN g : Int) := wrapI_mid (by unfold Mid; omega)
                    have q2 : IntKind.i64.wrap (x * Int.tdiv 60 (popN g : Int)) = x * Int.tdiv 60 (popN g : Int) := wrapI_mid (by unfold Mid; omega)
                    have q3 : IntKind.i64.wrap (sI (parG D p) g + x * Int.tdiv 60 (popN g : Int)) = sI (parG D p) g + x * Int.tdiv 60 (popN g : Int) := wrapI_mid (by unfold Mid; omega)
                    have HZ := Lib.hid hz
                    rw [ht] at hhas
                    clear hnx hbnd hz ht hlt3 hx hxD hpos hb0 hDl h2 hm
                    go_wp2_with fail
                    go_quiet (fail)
                    go_wp2_with fail
                    go_roundw
                    case rel => exact ⟨g + 1, _, by omega, by rw [HZ.out], by go_num, by rw [HW2.out]; exact World.drewN_drewN _ _ _⟩
                    case measure => simp [intOf]; omega
            · have hgl : g = L := by omega
              have HW2 := Lib.hid hw
              obtain ⟨b1, o1, hA1, x1, x2⟩ := rat_at hlt (show Rd wr wr.heap.size A1 _ by rw [hw]; exact X2.out)
              have HA1 := Lib.hid hA1
              subst hA1
              have hte := HT.out p hlt
              have hxx := HX.out p hlt
              have hb0 := HPl.out p L hlt (Nat.le_refl _)
              subst hgl
              generalize (meanF v wS n p) = xx at *
              obtain ⟨xn, xd⟩ := xx
              simp only at x1 x2 hte hxx
              generalize sI (parG D p) g = sm at *
              have hm := mul_le (A := 61440000) (B := 120) (u := sm) (v := xd) hb0 (by omega)
              have q1 : IntKind.i64.wrap (xn * 60) = xn * 60 := wrapI_mid (by rw [hte]; unfold Mid; omega)
              have q2 : IntKind.i64.wrap (sm * xd) = sm * xd := wrapI_mid (by unfold Mid; omega)
              have hne : (xn * 60 != sm * xd) = false := by rw [hte]; simp
              clear hte hxx hb0 hm hw hlt2
              go_wp2_with fail
              go_quiet (fail)
              go_wp2_with fail
              go_roundw
              case rel => exact ⟨p + 1, _, by omega, by go_num, by rw [HW2.out]; exact World.drewN_drewN _ _ _⟩
              case measure => simp [intOf]; omega
        · have hpn : p = n := by omega
          subst hpn
          have Bw := Lib.hid (show Below w.heap.size w wr by rw [hw]; exact bdN' B2.out m)
          clear hlt hw
          go_wp2_with fail
          refine (HKn.out _).mono ?_
          rintro e w7 ⟨rfl, hb⟩
          have B7 := Lib.hid (Bw.out.trans (hb.mono Bw.out.size))
          clear hb
          go_wp2_with fail
          go_ret
          exact ⟨rfl, B7.out⟩
end Go.Proofs.Ytfmhanpibgmgfaa

/-
  The greatest excess: the walk of Excess. Conditions: the lists can be read.
-/
import Derived.Test.YtfmhanpibgmgfaaPu9
namespace Go.Proofs.Ytfmhanpibgmgfaa
open Go.RowKit
set_option linter.unusedVariables false

/-- The first of the greatest among the groups 1 .. k-1. -/
def bsF (f : Nat → Int) : Nat → Nat
  | 0 => 1
  | k + 1 => if 2 ≤ k ∧ f (bsF f k) < f k then k else bsF f k
theorem bsF_lt (f : Nat → Int) : ∀ k, 1 ≤ bsF f k ∧ (2 ≤ k → bsF f k < k)
  | 0 => ⟨Nat.le_refl _, by omega⟩
  | k + 1 => by
    have h := bsF_lt f k
    unfold bsF
    split
    · exact ⟨by omega, by omega⟩
    · refine ⟨h.1, fun h2 => ?_⟩
      rcases Nat.lt_or_ge k 2 with h3 | h3
      · obtain rfl : k = 1 := by omega
        have : bsF f 1 = 1 := by simp [bsF]
        omega
      · have := h.2 h3
        omega
theorem bsF_2 (f : Nat → Int) : bsF f 2 = 1 := by simp [bsF]
theorem bsF_max (f : Nat → Int) : ∀ k g, 1 ≤ g → g < k → f g ≤ f (bsF f k)
  | 0, g, _, h => by omega
  | k + 1, g, h1, h2 => by
    unfold bsF
    by_cases hc : 2 ≤ k ∧ f (bsF f k) < f k
    · rw [if_pos hc]
      by_cases hg : g = k
      · rw [hg]; exact Int.le_refl _
      · have := bsF_max f k g h1 (by omega)
        omega
    · rw [if_neg hc]
      by_cases hg : g = k
      · subst hg
        rcases Nat.lt_or_ge g 2 with h3 | h3
        · obtain rfl : g = 1 := by omega
          have : bsF f 1 = 1 := by simp [bsF]
          rw [this]
          exact Int.le_refl _
        · have : ¬ f (bsF f g) < f g := fun h => hc ⟨h3, h⟩
          omega
      · exact bsF_max f k g h1 (by omega)
def exG (v : List Int) (den : Int) (p : List Int) : Int := if payE v den p = 0 ∧ plN v.length ≠ 1 then ((bsF (excF v den p) (v.length - 1) : Nat) : Int) else 0
def exN (v : List Int) (den : Int) (p : List Int) : Int := if payE v den p = 0 ∧ plN v.length ≠ 1 then excF v den p (bsF (excF v den p) (v.length - 1)) else 0
def exE (v : List Int) (den : Int) (p : List Int) : Int := if payE v den p = 0 then (if plN v.length = 1 then 4 else 0) else payE v den p
set_option maxRecDepth 8000 in
set_option maxHeartbeats 2000000 in
theorem Excess_any (Av : Option Addr) (v : List Int) (cv : Nat) (den : Int) (A : Option Addr) (p : List Int) (c : Nat) (hl : v.length ≤ 9223372036854775807) (hpl : p.length ≤ 9223372036854775807) (w : World) (hrv : Rd w w.heap.size Av (ints v)) (hr : Rd w w.heap.size A (ints p)) :
    Calls Try.prog 44 #[.slice Av v.length cv, .agg #[.int .i64 den, .slice A p.length c]] w fun e w' => e = .returned (.tuple #[.int .i64 (exG v den p), .int .i64 (exN v den p), .int .i64 (exE v den p)]) ∧ Below w.heap.size w w' := by
  obtain ⟨W, hW, h0, h1, hs1, hb0⟩ := one_pt w (.int .i64 den) (.slice A p.length c) 44
  have HW := Lib.hid hW
  have HB := Lib.hid hb0
  have HRv := Lib.hid ((hrv.below hb0 (Nat.le_refl _)).more (Nat.le_of_lt hs1))
  have HRp := Lib.hid ((hr.below hb0 (Nat.le_refl _)).more (Nat.le_of_lt hs1))
  have HCP := Lib.hid (checkPay_any Av v cv den A p c hl hpl W HRv.out HRp.out)
  obtain ⟨b, hbz⟩ : ∃ b, w.heap.size = b := ⟨_, rfl⟩
  have HBz := Lib.hid hbz
  rw [hbz] at h0 h1 HB hs1
  have H0 := Lib.hid h0
  have H1 := Lib.hid h1
  by_cases hp : payE v den p = 0
  case neg =>
    have h7 := (payE_01 v den p).resolve_left hp
    have HX := Lib.hid (show exG v den p = 0 ∧ exN v den p = 0 ∧ exE v den p = 1 from ⟨if_neg (fun h => hp h.1), if_neg (fun h => hp h.1), by unfold exE; rw [if_neg hp, h7]⟩)
    rw [h7] at HCP
    rw [HX.out.1, HX.out.2.1, HX.out.2.2]
    generalize v.length = L at *
    generalize p.length = np at *
    clear hp h7 hb0 hrv hr hW hbz
    go_enter Try.func44, Try.ntmps44
    go_wp2_with fail
    rw [HW.out, HBz.out]
    refine HCP.out.mono ?_
    rintro e w1 ⟨rfl, hb⟩
    have HB1 := Lib.hid (HB.out.trans (hb.mono (Nat.le_of_lt hs1)))
    clear hb
    go_wp2_with fail
    go_ret3
    exact ⟨rfl, by rw [HBz.out]; exact HB1.out⟩
  case pos =>
    obtain ⟨n, pv, hup, hpn, hpu, hd1, hd2⟩ := payE_ok hp
    have h32 := pv.le
    have hL0 : 0 < v.length := by rw [pv.len]; exact Nat.two_pow_pos n
    have HPl := Lib.hid (fun w => players_any Av v.length cv hl w)
    rw [pv.plZ] at HPl
    have HWh := Lib.hid (fun w => whole_any Av v.length cv hL0 hl w)
    have HE := Lib.hid (fun w h1 h2 => excesses_any Av v cv den A p c h32 hup (by rw [hpn]; exact pv.five) hpu hd1 hd2 w h1 h2)
    rw [hp] at HCP
    by_cases h1n : n = 1
    · have HX := Lib.hid (show exG v den p = 0 ∧ exN v den p = 0 ∧ exE v den p = 4 from ⟨if_neg (fun h => h.2 (by rw [pv.pl]; exact h1n)), if_neg (fun h => h.2 (by rw [pv.pl]; exact h1n)), by unfold exE; rw [if_pos hp, pv.pl, if_pos h1n]⟩)
      rw [HX.out.1, HX.out.2.1, HX.out.2.2]
      have e1 : ((n : Int) == 1) = true := by rw [h1n]; rfl
      have e1' : (n == 1) = true := by rw [h1n]; rfl
      generalize v.length = L at *
      generalize p.length = np at *
      clear hp pv hup hpn hpu hd1 hd2 hb0 hrv hr hW hbz h1n
      go_enter Try.func44, Try.ntmps44
      go_wp2_with fail
      rw [HW.out, HBz.out]
      refine HCP.out.mono ?_
      rintro e w1 ⟨rfl, hb⟩
      have HB1 := Lib.hid (HB.out.trans (hb.mono (Nat.le_of_lt hs1)))
      clear hb
      go_wp2_with fail
      refine (HPl.out _).mono ?_
      rintro e w2 ⟨rfl, rfl⟩
      go_wp2_with fail
      go_ret3
      exact ⟨rfl, by rw [HBz.out]; exact HB1.out⟩
    · have HX := Lib.hid (show exG v den p = ((bsF (excF v den p) (v.length - 1) : Nat) : Int) ∧ exN v den p = excF v den p (bsF (excF v den p) (v.length - 1)) ∧ exE v den p = 0 from ⟨if_pos ⟨hp, by rw [pv.pl]; exact h1n⟩, if_pos ⟨hp, by rw [pv.pl]; exact h1n⟩, by unfold exE; rw [if_pos hp, pv.pl, if_neg h1n]⟩)
      rw [HX.out.1, HX.out.2.1, HX.out.2.2]
      have e1 : ((n : Int) == 1) = false := by simp; omega
      have e1' : (n == 1) = false := by simpa using h1n
      have hL4 : 4 ≤ v.length := by
        rw [pv.len]
        have := pv.one
        exact Nat.pow_le_pow_right (n := 2) (i := 2) (by omega) (by omega)
      obtain ⟨L, hL⟩ : ∃ L, v.length = L := ⟨_, rfl⟩
      rw [hL] at HE HPl HWh HCP h32 hL0 hL4 hl ⊢
      obtain ⟨l1, hl1⟩ : ∃ l1, L - 1 = l1 := ⟨_, rfl⟩
      have HL1 := Lib.hid hl1
      rw [hl1] at HWh ⊢
      generalize p.length = np at *
      obtain ⟨F, hF⟩ : ∃ F, excF v den p = F := ⟨_, rfl⟩
      rw [hF] at HE ⊢
      have HLt := Lib.hid (bsF_lt F)
      have HB2 := Lib.hid (bsF_2 F)
      have HNx := Lib.hid (fun k => show bsF F (k + 1) = if 2 ≤ k ∧ F (bsF F k) < F k then k else bsF F k from rfl)
      generalize bsF F = bs at *
      clear hp pv hup hpn hpu hd1 hd2 hb0 hrv hr hW hbz h1n HX hL hF hl1
      go_enter Try.func44, Try.ntmps44
      go_wp2_with fail
      rw [HW.out, HBz.out]
      refine HCP.out.mono ?_
      rintro e w1 ⟨rfl, hb⟩
      have g0 := (hb.cell (p := ⟨b, 0, none⟩) hs1).trans H0.out
      have g1 := (hb.cell (p := ⟨b, 1, none⟩) hs1).trans H1.out
      have HB1 := Lib.hid (HB.out.trans (hb.mono (Nat.le_of_lt hs1)))
      have HB1s := Lib.hid (show b ≤ w1.heap.size by have := hb.size; omega)
      have HE1 := Lib.hid (HE.out w1 ((HRv.out.below hb (Nat.le_refl _)).more hb.size) ((HRp.out.below hb (Nat.le_refl _)).more hb.size))
      clear hb
      go_wp2_with fail
      refine (HPl.out _).mono ?_
      rintro e w2 ⟨rfl, rfl⟩
      go_wp2_with fail
      refine HE1.out.mono ?_
      rintro e w2 ⟨g, rfl, _, hg, hb⟩
      have HBb := Lib.hid (HB1.out.trans (hb.mono HB1s.out))
      have HG := Lib.hid hg
      clear hb hg g0 g1 h0 h1
      go_wp2_with fail
      go_loopw [9, 10] (fun u z wr => ∃ k m : Nat, 2 ≤ k ∧ k ≤ l1 ∧ u = .int .i64 ((bs k : Nat) : Int) ∧ z = .int .i64 (k : Int) ∧ wr = w2.drewN m) (fun _ z _ => l1 - (intOf z).toNat)
      case atStart => exact ⟨2, 0, by omega, by have := HL1.out; omega, by rw [HB2.out] <;> rfl, rfl, rfl⟩
      case round =>
        obtain ⟨k, m, hk2, hkl, rfl, rfl, hw⟩ := hrel
        have HWW := Lib.hid hw
        have hbk := (HLt.out k).2 hk2
        have hbk1 := (HLt.out k).1
        have hl1L : l1 < L := by have := HL1.out; omega
        have hgr : wr.heap[g]? = some (.cells (ints (rowF F L)).toArray 3 (0, 0)) := by rw [hw]; exact HG.out
        have cb : wr.cell? ⟨g, bs k, none⟩ = some (.int .i64 (F (bs k))) := (blk_cell hgr).trans (rowF_at (by omega))
        have b0 : (0 : Int) ≤ ((bs k : Nat) : Int) := by omega
        have b1 : ((bs k : Nat) : Int) < (L : Int) := by omega
        by_cases hlt : k < l1
        · have ck : wr.cell? ⟨g, k, none⟩ = some (.int .i64 (F k)) := (blk_cell hgr).trans (rowF_at (by omega))
          have b2 : (0 : Int) ≤ (k : Int) := by omega
          have b3 : (k : Int) < (L : Int) := by omega
          have e2 : decide ((k : Int) < (l1 : Int)) = true := decide_eq_true (by omega)
          have e2' : decide (k < l1) = true := decide_eq_true hlt
          have HN := Lib.hid (HNx.out k)
          clear hw hgr
          by_cases hc : F (bs k) < F k
          · have e3 : decide (F (bs k) < F k) = true := decide_eq_true hc
            have HN2 := Lib.hid (show bs (k + 1) = k by rw [HN.out, if_pos ⟨hk2, hc⟩])
            clear hc hbk hbk1
            generalize bs k = q at *
            go_wp2_with fail
            refine (HWh.out _).mono ?_
            rintro e w3 ⟨rfl, rfl⟩
            go_wp2_with fail
            go_quiet (fail)
            go_wp2_with fail
            go_roundw
            case rel => exact ⟨k + 1, _, by omega, by omega, by rw [HN2.out], by go_num, by rw [HWW.out]; exact World.drewN_drewN _ _ _⟩
            case measure => simp [intOf]; omega
          · have e3 : decide (F (bs k) < F k) = false := decide_eq_false hc
            have HN2 := Lib.hid (show bs (k + 1) = bs k by rw [HN.out, if_neg (fun h => hc h.2)])
            clear hc hbk hbk1
            generalize bs k = q at *
            go_wp2_with fail
            refine (HWh.out _).mono ?_
            rintro e w3 ⟨rfl, rfl⟩
            go_wp2_with fail
            go_quiet (fail)
            go_wp2_with fail
            go_roundw
            case rel => exact ⟨k + 1, _, by omega, by omega, by rw [HN2.out], by go_num, by rw [HWW.out]; exact World.drewN_drewN _ _ _⟩
            case measure => simp [intOf]; omega
        · have hkl1 : k = l1 := by omega
          subst hkl1
          have e2 : decide ((k : Int) < (k : Int)) = false := decide_eq_false (by omega)
          have HBw := Lib.hid (show Below b w wr by rw [hw]; exact bdN' HBb.out m)
          clear hw hgr hlt hbk hbk1
          go_wp2_with fail
          refine (HWh.out _).mono ?_
          rintro e w3 ⟨rfl, rfl⟩
          go_wp2_with fail
          go_quiet (fail)
          go_wp2_with fail
          go_ret3
          exact ⟨rfl, by rw [HBz.out]; exact bdN' HBw.out _⟩
end Go.Proofs.Ytfmhanpibgmgfaa

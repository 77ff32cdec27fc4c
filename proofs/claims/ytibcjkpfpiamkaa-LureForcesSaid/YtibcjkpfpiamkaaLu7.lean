/-
  Games: the walks of reached, won of the reference; of numbered, areRanks, isMoves, isPlan, isPlace of package lure. Conditions: the game is one and can be read.
-/
import Derived.Test.YtibcjkpfpiamkaaLu6
namespace Go.Proofs.Ytibcjkpfpiamkaa
open Go.RowKit
set_option linter.unusedVariables false

theorem lv_next (G : Gm) (goal k : Nat) : lv G goal (k + 1) = goal ||| fcN G 0 (lv G goal k) := rfl
set_option maxRecDepth 4000 in
set_option maxHeartbeats 800000 in
theorem reached_any (g : Gv) (goal : Nat) (m : Nat) (w : World) (hr : RdG w w.heap.size g) (hf : Gfit g) (hE : gE g.G = 0) (hg : goal < 2 ^ g.own.length) :
    Calls Try.prog 66 #[g.v, .int .i64 goal, .int .i64 m] w fun e w' => e = .returned (.int .i64 (lv g.G goal (m + 1) : Nat)) ∧ Below w.heap.size w w' := by
  obtain ⟨W, hl⟩ := laid_of w g hr hf hE
  have LA := Lib.hid hl
  have hn16 := hl.le
  have hg16 : 2 ^ g.own.length ≤ 65536 := show 2 ^ g.own.length ≤ 2 ^ 16 from Nat.pow_le_pow_right (by omega) hn16
  have HB := Lib.hid (fun S w h (hS : S < 2 ^ g.own.length) => before_any g S w h hf hE (by omega))
  have HLt := Lib.hid (fun k => lv_lt (G := g.G) hg k)
  have HEnd := Lib.hid (fun k (hk : g.own.length ≤ k) => lv_end (G := g.G) hg hk)
  have HOr := Lib.hid (fun k => i64_or_nat goal (fcN g.G 0 (lv g.G goal k)) (by omega) (Nat.lt_trans (fcN_lt g.G 0 (lv g.G goal k)) (by show 2 ^ g.own.length < _; omega)))
  have HOne := Lib.hid (lv_one (goal := goal) (gE_zero hE))
  have HNx := Lib.hid (fun k => lv_next g.G goal k)
  have e : g.G.own = g.own := rfl
  rw [e] at HLt HEnd
  clear hr hf hE hl hg e
  unfold Gv.v at HB ⊢
  generalize g.G = G at *
  obtain ⟨A0, c0, own, A1, c1, rs⟩ := g
  simp only at LA HB HLt HEnd hn16 hg16 ⊢
  have hW := LA.out.hW
  have p0 := LA.out.p0
  have p1 := LA.out.p1
  go_enter Try.func66, Try.ntmps66
  go_wp2_with fail
  clear hW
  go_loopw [7, 8] (fun v i wr => ∃ k : Nat, k ≤ own.length ∧ k ≤ m ∧ i = .int .i64 k ∧ v = .int .i64 (lv G goal (k + 1) : Nat) ∧ Below W.heap.size W wr) (fun _ i _ => own.length - (intOf i).toNat)
  case atStart => exact ⟨0, by omega, by omega, rfl, by rw [HOne.out], Below.refl _ _⟩
  case round =>
    obtain ⟨k, hk, hkm, rfl, rfl, hb⟩ := hrel
    have BW := Lib.hid hb
    have q0 := cell_keep p0 hb LA.out.hz
    have q1 := cell_keep p1 hb LA.out.hz
    clear hb
    have hlt1 := HLt.out (k + 1)
    by_cases hlt : k < own.length
    · by_cases hlm : k < m
      · have b0 : decide ((k : Int) < (m : Int)) = true := by rw [decide_eq_true_eq]; omega
        have b1 : decide (k < m) = true := by rw [decide_eq_true_eq]; exact hlm
        have HO := HOr.out (k + 1)
        have HN := Lib.hid (HNx.out (k + 1))
        have HQ := Lib.hid (fun w h => HB.out _ w h hlt1)
        generalize lv G goal (k + 1) = S at *
        clear hlt1
        go_wp2_with fail
        refine (HQ.out wr (LA.out.rg.up BW.out)).mono ?_
        rintro e w2 ⟨rfl, hb⟩
        have B2 := Lib.hid hb
        have B3 := Lib.hid (BW.out.trans (hb.mono BW.out.size))
        clear hb
        go_wp2_with fail
        go_roundw
        case rel => exact ⟨k + 1, by omega, by omega, by go_num, by rw [HN.out], B3.out⟩
        case measure => simp [intOf]; omega
      · have b0 : decide ((k : Int) < (m : Int)) = false := by rw [decide_eq_false_iff_not]; omega
        have b1 : decide (k < m) = false := by rw [decide_eq_false_iff_not]; exact hlm
        have HE := Lib.hid (show lv G goal (k + 1) = lv G goal (m + 1) by rw [show k = m by omega])
        clear hlm hlt1
        go_wp2_with fail
        go_ret
        exact ⟨by rw [← HE.out]; rfl, LA.out.b.trans (BW.out.mono LA.out.b.size)⟩
    · have HE := Lib.hid (show lv G goal (k + 1) = lv G goal (m + 1) by rw [HEnd.out (k + 1) (by omega), HEnd.out (m + 1) (by omega)])
      have b2 : decide ((k : Int) < (own.length : Int)) = false := by rw [decide_eq_false_iff_not]; omega
      have b3 : decide (k < own.length) = false := by rw [decide_eq_false_iff_not]; exact hlt
      clear hlt1
      by_cases hlm : k < m
      · have b0 : decide ((k : Int) < (m : Int)) = true := by rw [decide_eq_true_eq]; omega
        have b1 : decide (k < m) = true := by rw [decide_eq_true_eq]; exact hlm
        clear hlm hlt
        go_wp2_with fail
        go_ret
        exact ⟨by rw [← HE.out]; rfl, LA.out.b.trans (BW.out.mono LA.out.b.size)⟩
      · have b0 : decide ((k : Int) < (m : Int)) = false := by rw [decide_eq_false_iff_not]; omega
        have b1 : decide (k < m) = false := by rw [decide_eq_false_iff_not]; exact hlm
        clear hlm hlt
        go_wp2_with fail
        go_ret
        exact ⟨by rw [← HE.out]; rfl, LA.out.b.trans (BW.out.mono LA.out.b.size)⟩
theorem won_any (g : Gv) (goal : Nat) (w : World) (hr : RdG w w.heap.size g) (hf : Gfit g) (hE : gE g.G = 0) (hg : goal < 2 ^ g.own.length) :
    Calls Try.prog 61 #[g.v, .int .i64 goal] w fun e w' => e = .returned (.int .i64 (wonN g.G goal : Nat)) ∧ Below w.heap.size w w' := by
  obtain ⟨W, hl⟩ := laid_of w g hr hf hE
  have LA := Lib.hid hl
  have HB := Lib.hid (fun w h => reached_any g goal g.own.length w h hf hE hg)
  have HE := Lib.hid (show lv g.G goal (g.own.length + 1) = wonN g.G goal from lv_end hg (Nat.le_succ _))
  rw [HE.out] at HB
  clear hr hf hE hl hg HE
  unfold Gv.v at HB ⊢
  generalize g.G = G at *
  obtain ⟨A0, c0, own, A1, c1, rs⟩ := g
  simp only at LA HB ⊢
  have hW := LA.out.hW
  have p0 := LA.out.p0
  have p1 := LA.out.p1
  have B0 := Lib.hid LA.out.b
  go_enter Try.func61, Try.ntmps61
  go_wp2_with fail
  refine (HB.out W LA.out.rg).mono ?_
  rintro e w1 ⟨rfl, hb⟩
  have B1 := Lib.hid (B0.out.trans (hb.mono B0.out.size))
  clear hb
  go_wp2_with fail
  go_ret
  exact ⟨rfl, B1.out⟩
set_option maxRecDepth 4000 in
theorem numbered_any (A : Option Addr) (c : Nat) (R : List Int) (m : Int) (w : World) (hr : Rd w w.heap.size A (ints R)) (hn : R.length ≤ 16) :
    Calls Try.prog 65 #[.slice A R.length c, .int .i64 m] w fun e w' => e = .returned (.int .u32 (numN R m : Nat)) ∧ w = w' := by
  have HR := Lib.hid hr
  clear hr
  have HY := Lib.hid (fun k (h : k < 31) => or_u32 (fun p => inR m (R.getD p (-1))) h)
  have HN := Lib.hid (fun k h => bitK_no (f := fun p => inR m (R.getD p (-1))) (k := k) h)
  have HX := Lib.hid (fun k d (h : R[k]? = some d) => (show inR m (R.getD k (-1)) = inR m d by rw [List.getD_eq_getElem?_getD, h]; rfl))
  have HE := Lib.hid (show numN R m = bitK (fun p => inR m (R.getD p (-1))) R.length from rfl)
  have HBl := Lib.hid (fun k (h : k ≤ 31) => bitK_32 (fun p => inR m (R.getD p (-1))) h)
  go_enter Try.func65, Try.ntmps65
  go_wp2
  go_loop [5, 10] (fun v i => ∃ k : Nat, k ≤ R.length ∧ i = .int .i64 k ∧ v = .int .u32 (bitK (fun p => inR m (R.getD p (-1))) k : Nat)) (fun _ i => R.length - (intOf i).toNat)
  case atStart => exact ⟨0, by omega, rfl, rfl⟩
  case round =>
    obtain ⟨k, hk, rfl, rfl⟩ := hrel
    by_cases hlt : k < R.length
    · obtain ⟨b, o, d, rfl, hd, hc⟩ := HR.out.int k hlt
      have HXk := HX.out k d hd.out
      have HSh := Lib.hid (shl_u32 (k := k) (by omega))
      have HYk := Lib.hid (HY.out k (by omega))
      have HNk := Lib.hid (HN.out k)
      have hbl := HBl.out k (by omega)
      have b0 : (0 : Int) ≤ (k : Int) := by omega
      have b1 : (k : Int) < 32 := by omega
      generalize bitK (fun p => inR m (R.getD p (-1))) k = F at *
      by_cases h0 : 0 ≤ d
      · have e0 : decide (0 ≤ d) = true := by simpa using h0
        by_cases h1 : d ≤ m
        · have e1 : decide (d ≤ m) = true := by simpa using h1
          have HE := Lib.hid (HYk.out (by rw [HXk]; exact inR_iff.2 ⟨h0, h1⟩))
          clear HXk h0 h1
          go_wp2_with fail
          go_round
          case rel => exact ⟨k + 1, by omega, by go_num, by rw [HSh.out, HE.out]⟩
          case measure => simp [intOf]; omega
        · have e1 : decide (d ≤ m) = false := by simpa using h1
          have HE := Lib.hid (HNk.out (by rw [HXk]; unfold inR; rw [e1, Bool.and_false]))
          clear HXk h0 h1
          go_wp2_with fail
          go_round
          case rel => exact ⟨k + 1, by omega, by go_num, by rw [HE.out]⟩
          case measure => simp [intOf]; omega
      · have e0 : decide (0 ≤ d) = false := by simpa using h0
        have HE := Lib.hid (HNk.out (by rw [HXk]; unfold inR; rw [e0]; rfl))
        clear HXk h0
        go_wp2_with fail
        go_round
        case rel => exact ⟨k + 1, by omega, by go_num, by rw [HE.out]⟩
        case measure => simp [intOf]; omega
    · have hks : k = R.length := by omega
      subst hks
      go_wp2_with fail
      go_ret
      exact ⟨by rw [HE.out]; rfl, rfl⟩
end Go.Proofs.Ytibcjkpfpiamkaa

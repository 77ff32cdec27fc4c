/-
  The walk of the law PurseWeighs: it returns true. Conditions: the lists can be read.
-/
import Derived.Test.YtfmhanpibgmgfaaPuk
namespace Go.Proofs.Ytfmhanpibgmgfaa
open Go.RowKit
set_option linter.unusedVariables false

theorem ccE_07 (v : List Int) (den : Int) (p : List Int) : ccE v den p = 0 ∨ ccE v den p = 1 ∨ ccE v den p = 7 := by
  unfold ccE
  split
  · split
    · exact .inl rfl
    · exact .inr (.inr rfl)
  · rcases payE_01 v den p with h | h
    · exact .inl h
    · exact .inr (.inl h)
set_option maxRecDepth 8000 in
set_option maxHeartbeats 4000000 in
theorem PurseWeighs_walk (Av : Option Addr) (v : List Int) (cv : Nat) (den : Int) (A : Option Addr) (p : List Int) (c : Nat) (bden : Int) (Ab : Option Addr) (xs : List Pt) (cb : Nat) (hl : v.length ≤ 9223372036854775807) (hpl : p.length ≤ 9223372036854775807) (hxl : xs.length ≤ 9223372036854775807) (w : World)
    (hrv : Rd w w.heap.size Av (ints v)) (hr : Rd w w.heap.size A (ints p)) (hrx : Rd w w.heap.size Ab (xs.flatMap Pt.cells)) :
    Calls Try.prog 13 #[.slice Av v.length cv, .agg #[.int .i64 den, .slice A p.length c], .agg #[.int .i64 bden, .slice Ab xs.length cb]] w fun e w' => e = .returned (.bool true) ∧ Below w.heap.size w w' := by
  obtain ⟨W1, hW1, h0, h1, s1, b1⟩ := one_pt w (.int .i64 den) (.slice A p.length c) 44
  obtain ⟨W2, hW2, h2, h3, s2, b2⟩ := one_pt W1 (.int .i64 bden) (.slice Ab xs.length cb) 52
  have HW1 := Lib.hid hW1
  have HW2 := Lib.hid hW2
  obtain ⟨s, hs⟩ : ∃ s, w.heap.size = s := ⟨_, rfl⟩
  have HS := Lib.hid hs
  have hz1 : W1.heap.size = s + 1 := by rw [← hW1]; simp [hs]
  have hz2 : W2.heap.size = s + 1 + 1 := by rw [← hW2]; simp [hz1]
  have hb : Below w.heap.size w W2 := b1.trans (b2.mono (Nat.le_of_lt s1))
  have HB := Lib.hid (show Below s w W2 by rw [← hs]; exact hb)
  have HRv := Lib.hid ((hrv.below hb (Nat.le_refl _)).more hb.size)
  have HRp := Lib.hid ((hr.below hb (Nat.le_refl _)).more hb.size)
  have HRx := Lib.hid ((hrx.below hb (Nat.le_refl _)).more hb.size)
  rw [hs] at h0 h1
  rw [hz1] at h2 h3
  have g0 := (b2.cell (p := ⟨s, 0, none⟩) (by rw [hz1]; exact Nat.lt_succ_self s)).trans h0
  have g1 := (b2.cell (p := ⟨s, 1, none⟩) (by rw [hz1]; exact Nat.lt_succ_self s)).trans h1
  have HLo := Lib.hid (long_any Av A v.length cv p.length c hl hpl W2)
  have HKn := Lib.hid (fun w => known_any w)
  have HCC := Lib.hid (CheckCore_any Av v cv den A p c hl hpl W2 HRv.out HRp.out)
  have HCB := Lib.hid (fun w h h' => CheckBalance_any Av v cv bden Ab xs cb hl hxl w h h')
  have HNb := Lib.hid (fun (h : ccE v den p = 0) (h2 : cbE v bden xs = 0) => never_both h h2)
  have H07 := Lib.hid (ccE_07 v den p)
  generalize ccE v den p = ec at *
  generalize cbE v bden xs = eb at *
  generalize (decide (200 < v.length) || decide (200 < p.length)) = lo at *
  generalize v.length = nv at *
  generalize p.length = np at *
  obtain ⟨nx, hnx⟩ : ∃ nx, xs.length = nx := ⟨_, rfl⟩
  rw [hnx] at h3 HCB HW2 hxl ⊢
  have HZ2 := Lib.hid hz2
  clear hW1 hW2 h0 h1 hs s1 b1 s2 b2 hb hrv hr hrx hz1 hz2 hnx
  cases lo
  case true =>
    go_enter Try.func13, Try.ntmps13
    go_wp2_with fail
    rw [HW1.out, HW2.out, HS.out]
    refine HLo.out.mono ?_
    rintro e w' ⟨rfl, rfl⟩
    go_wp2_with fail
    refine (HKn.out _).mono ?_
    rintro e w' ⟨rfl, hb⟩
    have HB2 := Lib.hid (HB.out.trans (hb.mono (by rw [HZ2.out]; omega)))
    clear hb
    go_wp2_with fail
    go_ret
    exact ⟨rfl, by rw [HS.out]; exact HB2.out⟩
  case false =>
    by_cases hx : 100 < nx
    · have e1 : decide ((100 : Int) < (nx : Int)) = true := decide_eq_true (by omega)
      have e1' : decide (100 < nx) = true := decide_eq_true hx
      clear hx
      go_enter Try.func13, Try.ntmps13
      go_wp2_with fail
      rw [HW1.out, HW2.out, HS.out]
      refine HLo.out.mono ?_
      rintro e w' ⟨rfl, rfl⟩
      go_wp2_with fail
      refine (HKn.out _).mono ?_
      rintro e w' ⟨rfl, hb⟩
      have HB2 := Lib.hid (HB.out.trans (hb.mono (by rw [HZ2.out]; omega)))
      clear hb
      go_wp2_with fail
      go_ret
      exact ⟨rfl, by rw [HS.out]; exact HB2.out⟩
    · have e1 : decide ((100 : Int) < (nx : Int)) = false := decide_eq_false (by omega)
      have e1' : decide (100 < nx) = false := decide_eq_false hx
      clear hx
      by_cases hc : ec = 0
      · have e3 : (eb != 0) = true := by
          rw [bne_iff_ne]
          intro h
          exact HNb.out hc h
        subst hc
        go_enter Try.func13, Try.ntmps13
        go_wp2_with fail
        rw [HW1.out, HW2.out, HS.out]
        refine HLo.out.mono ?_
        rintro e w' ⟨rfl, rfl⟩
        go_wp2_with fail
        refine HCC.out.mono ?_
        rintro e w3 ⟨rfl, hb⟩
        have HB2 := Lib.hid (HB.out.trans (hb.mono (by rw [HZ2.out]; omega)))
        have k2 := (hb.cell (p := ⟨s + 1, 0, none⟩) (by rw [HZ2.out]; exact Nat.lt_succ_self _)).trans h2
        have k3 := (hb.cell (p := ⟨s + 1, 1, none⟩) (by rw [HZ2.out]; exact Nat.lt_succ_self _)).trans h3
        have HC2 := Lib.hid (HCB.out w3 ((HRv.out.below hb (Nat.le_refl _)).more hb.size) ((HRx.out.below hb (Nat.le_refl _)).more hb.size))
        have HZ3 := Lib.hid (show s ≤ w3.heap.size by have := hb.size; rw [HZ2.out] at this; omega)
        clear hb
        go_wp2_with fail
        refine HC2.out.mono ?_
        rintro e w4 ⟨rfl, hb⟩
        have HB3 := Lib.hid (HB2.out.trans (hb.mono HZ3.out))
        have HZ4 := Lib.hid (Nat.le_trans HZ3.out hb.size)
        clear hb
        go_wp2_with fail
        refine (HKn.out _).mono ?_
        rintro e w' ⟨rfl, hb⟩
        have HB4 := Lib.hid (HB3.out.trans (hb.mono HZ4.out))
        clear hb
        go_wp2_with fail
        go_ret
        exact ⟨rfl, by rw [HS.out]; exact HB4.out⟩
      · have e3 : (ec != 0) = true := by rw [bne_iff_ne]; exact hc
        clear hc
        go_enter Try.func13, Try.ntmps13
        go_wp2_with fail
        rw [HW1.out, HW2.out, HS.out]
        refine HLo.out.mono ?_
        rintro e w' ⟨rfl, rfl⟩
        go_wp2_with fail
        refine HCC.out.mono ?_
        rintro e w3 ⟨rfl, hb⟩
        have HB2 := Lib.hid (HB.out.trans (hb.mono (by rw [HZ2.out]; omega)))
        have HZ3 := Lib.hid (show s ≤ w3.heap.size by have := hb.size; rw [HZ2.out] at this; omega)
        clear hb
        go_wp2_with fail
        refine (HKn.out _).mono ?_
        rintro e w' ⟨rfl, hb⟩
        have HB4 := Lib.hid (HB2.out.trans (hb.mono HZ3.out))
        clear hb
        go_wp2_with fail
        go_ret
        exact ⟨rfl, by rw [HS.out]; exact HB4.out⟩
end Go.Proofs.Ytfmhanpibgmgfaa

/-
  The walk of the law PurseChecks: it returns true. Conditions: the lists can be read.
-/
import Derived.Test.YtfmhanpibgmgfaaPuk
import Derived.Test.YtfmhanpibgmgfaaPuo
namespace Go.Proofs.Ytfmhanpibgmgfaa
open Go.RowKit
set_option linter.unusedVariables false

set_option maxRecDepth 8000 in
set_option maxHeartbeats 8000000 in
theorem PurseChecks_walk (Av : Option Addr) (v : List Int) (cv : Nat) (den : Int) (A : Option Addr) (p : List Int) (c : Nat) (hl : v.length ≤ 9223372036854775807) (hpl : p.length ≤ 9223372036854775807) (w : World) (hrv : Rd w w.heap.size Av (ints v)) (hr : Rd w w.heap.size A (ints p)) :
    Calls Try.prog 10 #[.slice Av v.length cv, .agg #[.int .i64 den, .slice A p.length c]] w fun e w' => e = .returned (.bool true) ∧ Below w.heap.size w w' := by
  obtain ⟨W1, hW1, h0, h1, s1, b1⟩ := one_pt w (.int .i64 den) (.slice A p.length c) 44
  have HW1 := Lib.hid hW1
  obtain ⟨s, hs⟩ : ∃ s, w.heap.size = s := ⟨_, rfl⟩
  have HS := Lib.hid hs
  have hz1 : W1.heap.size = s + 1 := by rw [← hW1]; simp [hs]
  have HB := Lib.hid (show Below s w W1 by rw [← hs]; exact b1)
  have HRv := Lib.hid ((hrv.below b1 (Nat.le_refl _)).more b1.size)
  have HRp := Lib.hid ((hr.below b1 (Nat.le_refl _)).more b1.size)
  rw [hs] at h0 h1
  have HLo := Lib.hid (long_any Av A v.length cv p.length c hl hpl W1)
  have HKn := Lib.hid (fun w => known_any w)
  have HEx := Lib.hid (Excess_any Av v cv den A p c hl hpl W1 HRv.out HRp.out)
  have HEr := Lib.hid (fun w h h' => rExcess_any Av v cv den A p c hl hpl w h h')
  have HCC := Lib.hid (fun w h h' => CheckCore_any Av v cv den A p c hl hpl w h h')
  have HCr := Lib.hid (fun w h h' => rCheckCore_any Av v cv den A p c hl hpl w h h')
  have HZ1 := Lib.hid hz1
  have H0 := Lib.hid h0
  have H1 := Lib.hid h1
  generalize exE v den p = ee at *
  generalize exG v den p = eg at *
  generalize exN v den p = en at *
  generalize ccE v den p = ec at *
  generalize hlo : (decide (200 < v.length) || decide (200 < p.length)) = lo at *
  generalize v.length = nv at *
  generalize p.length = np at *
  clear hW1 hs s1 b1 hrv hr hz1 hlo
  cases lo
  case true =>
    go_enter Try.func10, Try.ntmps10
    go_wp2_with fail
    rw [HW1.out, HS.out]
    refine HLo.out.mono ?_
    rintro e w' ⟨rfl, rfl⟩
    go_wp2_with fail
    refine (HKn.out _).mono ?_
    rintro e w' ⟨rfl, hb⟩
    have HB2 := Lib.hid (HB.out.trans (hb.mono (by rw [HZ1.out]; omega)))
    clear hb
    go_wp2_with fail
    go_ret
    exact ⟨rfl, by rw [HS.out]; exact HB2.out⟩
  case false =>
    go_enter Try.func10, Try.ntmps10
    go_wp2_with fail
    rw [HW1.out, HS.out]
    refine HLo.out.mono ?_
    rintro e w' ⟨rfl, rfl⟩
    go_wp2_with fail
    refine HEx.out.mono ?_
    rintro e w3 ⟨rfl, hb⟩
    have HB2 := Lib.hid (HB.out.trans (hb.mono (by rw [HZ1.out]; omega)))
    have HZ3 := Lib.hid (show s < w3.heap.size by have := hb.size; rw [HZ1.out] at this; omega)
    have HRv3 := Lib.hid ((HRv.out.below hb (Nat.le_refl _)).more hb.size)
    have HRp3 := Lib.hid ((HRp.out.below hb (Nat.le_refl _)).more hb.size)
    have k0 := (hb.cell (p := ⟨s, 0, none⟩) (by rw [HZ1.out]; exact Nat.lt_succ_self s)).trans H0.out
    have k1 := (hb.cell (p := ⟨s, 1, none⟩) (by rw [HZ1.out]; exact Nat.lt_succ_self s)).trans H1.out
    have HE3 := Lib.hid (HEr.out w3 HRv3.out HRp3.out)
    clear hb h0 h1
    go_wp2_with fail
    refine HE3.out.mono ?_
    rintro e w5 ⟨rfl, hb⟩
    have HB5 := Lib.hid (HB2.out.trans (hb.mono (by have := HZ3.out; omega)))
    have HZ5 := Lib.hid (show s ≤ w5.heap.size by have := hb.size; have := HZ3.out; omega)
    have HRv5 := Lib.hid ((HRv3.out.below hb (Nat.le_refl _)).more hb.size)
    have HRp5 := Lib.hid ((HRp3.out.below hb (Nat.le_refl _)).more hb.size)
    have g0 := fun d os => cell_regrown ((hb.cell (p := ⟨s, 0, none⟩) HZ3.out).trans k0) d os
    have g1 := fun d os => cell_regrown ((hb.cell (p := ⟨s, 1, none⟩) HZ3.out).trans k1) d os
    have e1 : (ec == ec) = true := by simp
    have e2 : (eg == eg) = true := by simp
    have e3 : (en == en) = true := by simp
    have e4 : (ee == ee) = true := by simp
    clear hb k0 k1
    go_wp2_with fail
    refine wp_region_quiet_below (by kernel_rfl) (by kernel_rfl) ?_
    repeat (go_big_quiet_step (with_reducible first | exact Calls.regrown_of (HKn.out _) | exact Calls.regrown_of (HCC.out _ (rd_grown HRv5.out _ _) (rd_grown HRp5.out _ _)) | exact Calls.regrown_of (HCr.out _ (rd_grown HRv5.out _ _) (rd_grown HRp5.out _ _))))
    refine wpQuiet_nil ?_
    intro _ hw'
    obtain ⟨⟨dq, osq⟩, hw''⟩ := hw'
    subst hw''
    have HB6 := Lib.hid (HB5.out.trans ((below_regrown w5 dq osq).mono HZ5.out))
    go_wp2_with fail
    go_ret
    exact ⟨rfl, by rw [HS.out]; exact HB6.out⟩
end Go.Proofs.Ytfmhanpibgmgfaa

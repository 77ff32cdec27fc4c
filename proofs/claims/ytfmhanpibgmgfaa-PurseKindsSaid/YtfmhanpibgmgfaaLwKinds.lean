/-
  The walk of the law PurseKinds: it returns true. Conditions: the lists can be read.
-/
import Derived.Test.YtfmhanpibgmgfaaPuk
import Derived.Test.YtfmhanpibgmgfaaPk2
namespace Go.Proofs.Ytfmhanpibgmgfaa
open Go.RowKit
set_option linter.unusedVariables false

theorem mgk_len (v o : List Int) : (mgL v o).length = mgLen v o := by
  unfold mgL mgLen
  split
  · rw [rowF_len]
  · rfl
theorem mgk_small (v o : List Int) : mgLen v o ≤ 9223372036854775807 := by
  unfold mgLen
  split
  · rename_i h
    obtain ⟨n, pv, _, od, _⟩ := orE_ok h
    have := pv.five
    rw [od.len]
    omega
  · omega
set_option maxRecDepth 8000 in
set_option maxHeartbeats 8000000 in
theorem PurseKinds_walk (Av : Option Addr) (v : List Int) (cv : Nat) (A : Option Addr) (o : List Int) (c : Nat) (hl : v.length ≤ 9223372036854775807) (hpl : o.length ≤ 9223372036854775807) (w : World) (hrv : Rd w w.heap.size Av (ints v)) (hr : Rd w w.heap.size A (ints o)) :
    Calls Try.prog 9 #[.slice Av v.length cv, .slice A o.length c] w fun e w' => e = .returned (.bool true) ∧ Below w.heap.size w w' := by
  have HLo := Lib.hid (long_any Av A v.length cv o.length c hl hpl w)
  have HKn := Lib.hid (fun w => known_any w)
  have HS1 := Lib.hid (IsSuper_any Av v cv hl w hrv)
  have HS2 := Lib.hid (fun w h => rKindS_any Av v cv hl w h)
  have HC1 := Lib.hid (fun w h => IsConvex_any Av v cv hl w h)
  have HC2 := Lib.hid (fun w h => rKindC_any Av v cv hl w h)
  have HMa := Lib.hid (fun w h h' => Marginal_any Av v cv A o c hl hpl w h h')
  have HCC := Lib.hid (fun A' c' w h h' => CheckCore_any Av v cv 1 A' (mgL v o) c' hl (by rw [mgk_len]; exact mgk_small v o) w h h')
  have HCore := Lib.hid (fun (h1 : orE v o = 0) (h2 : kdB v qC = true) => marg_core h1 h2)
  have HSup := Lib.hid (fun (h : kdB v qC = true) => kd_super v h)
  have HRv := Lib.hid hrv
  have HR := Lib.hid hr
  rw [mgk_len] at HCC
  generalize hlo : (decide (200 < v.length) || decide (200 < o.length)) = lo at *
  generalize v.length = nv at *
  generalize o.length = np at *
  clear hrv hr hlo
  cases lo
  case true =>
    go_enter Try.func9, Try.ntmps9
    go_wp2_with fail
    refine HLo.out.mono ?_
    rintro e w' ⟨rfl, rfl⟩
    go_wp2_with fail
    refine (HKn.out _).mono ?_
    rintro e w' ⟨rfl, hb⟩
    have HB2 := Lib.hid hb
    clear hb
    go_wp2_with fail
    go_ret
    exact ⟨rfl, HB2.out⟩
  case false =>
    generalize vdE v = V at *
    generalize kdB v qS = a at *
    generalize kdB v qC = k at *
    generalize mgLen v o = ml at *
    generalize ccE v 1 (mgL v o) = ec at *
    generalize orE v o = OE at *
    have e1 : (V != V) = false := by simp
    cases k
    case false =>
      cases a
      · go_enter Try.func9, Try.ntmps9
        go_wp2_with fail
        refine HLo.out.mono ?_
        rintro e w' ⟨rfl, rfl⟩
        go_wp2_with fail
        refine HS1.out.mono ?_
        rintro e w1 ⟨rfl, hb⟩
        have B1 := Lib.hid hb
        have V1 := Lib.hid ((HRv.out.below hb (Nat.le_refl _)).more hb.size)
        have O1 := Lib.hid ((HR.out.below hb (Nat.le_refl _)).more hb.size)
        clear hb
        go_wp2_with fail
        refine (HS2.out w1 V1.out).mono ?_
        rintro e w2 ⟨rfl, hb⟩
        have B2 := Lib.hid (B1.out.trans (hb.mono B1.out.size))
        have V2 := Lib.hid ((V1.out.below hb (Nat.le_refl _)).more hb.size)
        have O2 := Lib.hid ((O1.out.below hb (Nat.le_refl _)).more hb.size)
        clear hb
        go_wp2_with fail
        refine (HC1.out w2 V2.out).mono ?_
        rintro e w3 ⟨rfl, hb⟩
        have B3 := Lib.hid (B2.out.trans (hb.mono B2.out.size))
        have V3 := Lib.hid ((V2.out.below hb (Nat.le_refl _)).more hb.size)
        have O3 := Lib.hid ((O2.out.below hb (Nat.le_refl _)).more hb.size)
        clear hb
        go_wp2_with fail
        refine (HC2.out w3 V3.out).mono ?_
        rintro e w4 ⟨rfl, hb⟩
        have B4 := Lib.hid (B3.out.trans (hb.mono B3.out.size))
        have V4 := Lib.hid ((V3.out.below hb (Nat.le_refl _)).more hb.size)
        have O4 := Lib.hid ((O3.out.below hb (Nat.le_refl _)).more hb.size)
        clear hb
        go_wp2_with fail
        refine (HMa.out w4 V4.out O4.out).mono ?_
        rintro e w5 ⟨A5, c5, rfl, hrd, hb⟩
        have B5 := Lib.hid (B4.out.trans (hb.mono B4.out.size))
        have V5 := Lib.hid ((V4.out.below hb (Nat.le_refl _)).more hb.size)
        have R5 := Lib.hid hrd
        clear hb hrd
        go_wp2_with fail
        refine (HKn.out _).mono ?_
        rintro e w7 ⟨rfl, hb⟩
        have B7 := Lib.hid (B5.out.trans (hb.mono B5.out.size))
        clear hb
        go_wp2_with fail
        go_ret
        exact ⟨rfl, B7.out⟩
      · go_enter Try.func9, Try.ntmps9
        go_wp2_with fail
        refine HLo.out.mono ?_
        rintro e w' ⟨rfl, rfl⟩
        go_wp2_with fail
        refine HS1.out.mono ?_
        rintro e w1 ⟨rfl, hb⟩
        have B1 := Lib.hid hb
        have V1 := Lib.hid ((HRv.out.below hb (Nat.le_refl _)).more hb.size)
        have O1 := Lib.hid ((HR.out.below hb (Nat.le_refl _)).more hb.size)
        clear hb
        go_wp2_with fail
        refine (HS2.out w1 V1.out).mono ?_
        rintro e w2 ⟨rfl, hb⟩
        have B2 := Lib.hid (B1.out.trans (hb.mono B1.out.size))
        have V2 := Lib.hid ((V1.out.below hb (Nat.le_refl _)).more hb.size)
        have O2 := Lib.hid ((O1.out.below hb (Nat.le_refl _)).more hb.size)
        clear hb
        go_wp2_with fail
        refine (HC1.out w2 V2.out).mono ?_
        rintro e w3 ⟨rfl, hb⟩
        have B3 := Lib.hid (B2.out.trans (hb.mono B2.out.size))
        have V3 := Lib.hid ((V2.out.below hb (Nat.le_refl _)).more hb.size)
        have O3 := Lib.hid ((O2.out.below hb (Nat.le_refl _)).more hb.size)
        clear hb
        go_wp2_with fail
        refine (HC2.out w3 V3.out).mono ?_
        rintro e w4 ⟨rfl, hb⟩
        have B4 := Lib.hid (B3.out.trans (hb.mono B3.out.size))
        have V4 := Lib.hid ((V3.out.below hb (Nat.le_refl _)).more hb.size)
        have O4 := Lib.hid ((O3.out.below hb (Nat.le_refl _)).more hb.size)
        clear hb
        go_wp2_with fail
        refine (HMa.out w4 V4.out O4.out).mono ?_
        rintro e w5 ⟨A5, c5, rfl, hrd, hb⟩
        have B5 := Lib.hid (B4.out.trans (hb.mono B4.out.size))
        have V5 := Lib.hid ((V4.out.below hb (Nat.le_refl _)).more hb.size)
        have R5 := Lib.hid hrd
        clear hb hrd
        go_wp2_with fail
        refine (HKn.out _).mono ?_
        rintro e w7 ⟨rfl, hb⟩
        have B7 := Lib.hid (B5.out.trans (hb.mono B5.out.size))
        clear hb
        go_wp2_with fail
        go_ret
        exact ⟨rfl, B7.out⟩
    case true =>
      have ha : a = true := HSup.out rfl
      subst ha
      by_cases ho : OE = 0
      · have h0 := HCore.out ho rfl
        subst ho h0
        go_enter Try.func9, Try.ntmps9
        go_wp2_with fail
        refine HLo.out.mono ?_
        rintro e w' ⟨rfl, rfl⟩
        go_wp2_with fail
        refine HS1.out.mono ?_
        rintro e w1 ⟨rfl, hb⟩
        have B1 := Lib.hid hb
        have V1 := Lib.hid ((HRv.out.below hb (Nat.le_refl _)).more hb.size)
        have O1 := Lib.hid ((HR.out.below hb (Nat.le_refl _)).more hb.size)
        clear hb
        go_wp2_with fail
        refine (HS2.out w1 V1.out).mono ?_
        rintro e w2 ⟨rfl, hb⟩
        have B2 := Lib.hid (B1.out.trans (hb.mono B1.out.size))
        have V2 := Lib.hid ((V1.out.below hb (Nat.le_refl _)).more hb.size)
        have O2 := Lib.hid ((O1.out.below hb (Nat.le_refl _)).more hb.size)
        clear hb
        go_wp2_with fail
        refine (HC1.out w2 V2.out).mono ?_
        rintro e w3 ⟨rfl, hb⟩
        have B3 := Lib.hid (B2.out.trans (hb.mono B2.out.size))
        have V3 := Lib.hid ((V2.out.below hb (Nat.le_refl _)).more hb.size)
        have O3 := Lib.hid ((O2.out.below hb (Nat.le_refl _)).more hb.size)
        clear hb
        go_wp2_with fail
        refine (HC2.out w3 V3.out).mono ?_
        rintro e w4 ⟨rfl, hb⟩
        have B4 := Lib.hid (B3.out.trans (hb.mono B3.out.size))
        have V4 := Lib.hid ((V3.out.below hb (Nat.le_refl _)).more hb.size)
        have O4 := Lib.hid ((O3.out.below hb (Nat.le_refl _)).more hb.size)
        clear hb
        go_wp2_with fail
        refine (HMa.out w4 V4.out O4.out).mono ?_
        rintro e w5 ⟨A5, c5, rfl, hrd, hb⟩
        have B5 := Lib.hid (B4.out.trans (hb.mono B4.out.size))
        have V5 := Lib.hid ((V4.out.below hb (Nat.le_refl _)).more hb.size)
        have R5 := Lib.hid hrd
        clear hb hrd
        have HC5 := Lib.hid (HCC.out A5 c5 w5 V5.out R5.out)
        go_wp2_with fail
        refine HC5.out.mono ?_
        rintro e w6 ⟨rfl, hb⟩
        have B6 := Lib.hid (B5.out.trans (hb.mono B5.out.size))
        clear hb
        go_wp2_with fail
        refine (HKn.out _).mono ?_
        rintro e w7 ⟨rfl, hb⟩
        have B7 := Lib.hid (B6.out.trans (hb.mono B6.out.size))
        clear hb
        go_wp2_with fail
        go_ret
        exact ⟨rfl, B7.out⟩
      · have e5 : (OE != 0) = true := by rw [bne_iff_ne]; exact ho
        clear ho
        go_enter Try.func9, Try.ntmps9
        go_wp2_with fail
        refine HLo.out.mono ?_
        rintro e w' ⟨rfl, rfl⟩
        go_wp2_with fail
        refine HS1.out.mono ?_
        rintro e w1 ⟨rfl, hb⟩
        have B1 := Lib.hid hb
        have V1 := Lib.hid ((HRv.out.below hb (Nat.le_refl _)).more hb.size)
        have O1 := Lib.hid ((HR.out.below hb (Nat.le_refl _)).more hb.size)
        clear hb
        go_wp2_with fail
        refine (HS2.out w1 V1.out).mono ?_
        rintro e w2 ⟨rfl, hb⟩
        have B2 := Lib.hid (B1.out.trans (hb.mono B1.out.size))
        have V2 := Lib.hid ((V1.out.below hb (Nat.le_refl _)).more hb.size)
        have O2 := Lib.hid ((O1.out.below hb (Nat.le_refl _)).more hb.size)
        clear hb
        go_wp2_with fail
        refine (HC1.out w2 V2.out).mono ?_
        rintro e w3 ⟨rfl, hb⟩
        have B3 := Lib.hid (B2.out.trans (hb.mono B2.out.size))
        have V3 := Lib.hid ((V2.out.below hb (Nat.le_refl _)).more hb.size)
        have O3 := Lib.hid ((O2.out.below hb (Nat.le_refl _)).more hb.size)
        clear hb
        go_wp2_with fail
        refine (HC2.out w3 V3.out).mono ?_
        rintro e w4 ⟨rfl, hb⟩
        have B4 := Lib.hid (B3.out.trans (hb.mono B3.out.size))
        have V4 := Lib.hid ((V3.out.below hb (Nat.le_refl _)).more hb.size)
        have O4 := Lib.hid ((O3.out.below hb (Nat.le_refl _)).more hb.size)
        clear hb
        go_wp2_with fail
        refine (HMa.out w4 V4.out O4.out).mono ?_
        rintro e w5 ⟨A5, c5, rfl, hrd, hb⟩
        have B5 := Lib.hid (B4.out.trans (hb.mono B4.out.size))
        have V5 := Lib.hid ((V4.out.below hb (Nat.le_refl _)).more hb.size)
        have R5 := Lib.hid hrd
        clear hb hrd
        go_wp2_with fail
        refine (HKn.out _).mono ?_
        rintro e w7 ⟨rfl, hb⟩
        have B7 := Lib.hid (B5.out.trans (hb.mono B5.out.size))
        clear hb
        go_wp2_with fail
        go_ret
        exact ⟨rfl, B7.out⟩
end Go.Proofs.Ytfmhanpibgmgfaa

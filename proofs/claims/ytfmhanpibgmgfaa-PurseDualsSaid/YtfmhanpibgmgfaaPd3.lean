/-
  Dividends of the program: Dividends and FromDividends. Conditions: the lists can be read.
-/
import Derived.Test.YtfmhanpibgmgfaaPd2
namespace Go.Proofs.Ytfmhanpibgmgfaa
open Go.RowKit
set_option linter.unusedVariables false

def dvG (v : List Int) : Nat → Int := tfF (nth v) (-1) (plN v.length)
def dvLen (v : List Int) : Nat := if vdE v = 0 then v.length else 0
def dvL (v : List Int) : List Int := if vdE v = 0 then rowF (dvG v) v.length else []
def fdG (d : List Int) : Nat → Int := tfF (nth d) 1 (plN d.length)
def fdE (d : List Int) : Int := if fgB d 1000000 = true then (if upB 1000 (rowF (fdG d) d.length) = true then 0 else 3) else 1
def fdLen (d : List Int) : Nat := if fdE d = 0 then d.length else 0
def fdL (d : List Int) : List Int := if fdE d = 0 then rowF (fdG d) d.length else []
theorem upB_more {a b : Int} {l : List Int} (hab : a ≤ b) (h : upB a l = true) : upB b l = true := by
  unfold upB at *
  rw [List.all_eq_true] at *
  intro x hx
  have := h x hx
  simp [inUp] at this ⊢
  omega
set_option maxRecDepth 8000 in
theorem Dividends_any (Av : Option Addr) (v : List Int) (cv : Nat) (hl : v.length ≤ 9223372036854775807) (w : World) (hr : Rd w w.heap.size Av (ints v)) :
    Calls Try.prog 29 #[.slice Av v.length cv] w fun e w' => ∃ A' c', e = .returned (.tuple #[.slice A' (dvLen v) c', .int .i64 (vdE v)]) ∧ Rd w' w'.heap.size A' (ints (dvL v)) ∧ Below w.heap.size w w' := by
  have HV := Lib.hid (Validate_any Av v cv hl w hr)
  by_cases hv : vdE v = 0
  case neg =>
    have k1 : dvLen v = 0 := if_neg hv
    have k2 : dvL v = [] := if_neg hv
    rw [k1, k2]
    rw [vd_bad v hv] at HV ⊢
    generalize v.length = L at *
    clear hv hr k1 k2
    go_enter Try.func29, Try.ntmps29
    go_wp2_with fail
    refine HV.out.mono ?_
    rintro e w1 ⟨rfl, hb⟩
    have HB1 := Lib.hid hb
    clear hb
    go_wp2_with fail
    go_ret2
    exact ⟨none, 0, rfl, Rd.nil_, HB1.out⟩
  case pos =>
    obtain ⟨n, pv, hup⟩ := vdE_pv hv
    have k1 : dvLen v = v.length := if_pos hv
    have k2 : dvL v = rowF (tfF (nth v) (-1) n) v.length := by unfold dvL dvG; rw [if_pos hv, pv.pl]
    have HP := Lib.hid (fun w h => addParts_any Av v cv n (-1) (.inr rfl) pv (upB_more (by decide) hup) w h)
    have HR := Lib.hid hr
    rw [k1, k2, hv]
    rw [hv] at HV
    generalize tfF (nth v) (-1) n = F at *
    generalize v.length = L at *
    clear hv hr k1 k2 pv hup
    go_enter Try.func29, Try.ntmps29
    go_wp2_with fail
    refine HV.out.mono ?_
    rintro e w1 ⟨rfl, hb⟩
    have HB1 := Lib.hid hb
    have HP1 := Lib.hid (HP.out w1 ((HR.out.below hb (Nat.le_refl _)).more hb.size))
    clear hb
    go_wp2_with fail
    refine HP1.out.mono ?_
    rintro e w2 ⟨g, c, rfl, hg, hrow, hb⟩
    have HB2 := Lib.hid (HB1.out.trans (hb.mono HB1.out.size))
    have HF := Lib.hid hrow.rd
    clear hb hrow
    go_wp2_with fail
    go_ret2
    exact ⟨some ⟨g, 0, none⟩, c, rfl, HF.out, HB2.out⟩
set_option maxRecDepth 8000 in
theorem FromDividends_any (Av : Option Addr) (v : List Int) (cv : Nat) (hl : v.length ≤ 9223372036854775807) (w : World) (hr : Rd w w.heap.size Av (ints v)) :
    Calls Try.prog 31 #[.slice Av v.length cv] w fun e w' => ∃ A' c', e = .returned (.tuple #[.slice A' (fdLen v) c', .int .i64 (fdE v)]) ∧ Rd w' w'.heap.size A' (ints (fdL v)) ∧ Below w.heap.size w w' := by
  have HV := Lib.hid (areForGroups_any Av v cv 1000000 (by omega) (by omega) hl w hr)
  cases hv : fgB v 1000000
  case false =>
    have k0 : fdE v = 1 := by unfold fdE; rw [hv]; rfl
    have k1 : fdLen v = 0 := by unfold fdLen; rw [k0]; rfl
    have k2 : fdL v = [] := by unfold fdL; rw [k0]; rfl
    rw [k0, k1, k2]
    rw [hv] at HV
    generalize v.length = L at *
    clear hv hr k0 k1 k2
    go_enter Try.func31, Try.ntmps31
    go_wp2_with fail
    refine HV.out.mono ?_
    rintro e w1 ⟨rfl, hb⟩
    have HB1 := Lib.hid hb
    clear hb
    go_wp2_with fail
    go_ret2
    exact ⟨none, 0, rfl, Rd.nil_, HB1.out⟩
  case true =>
    obtain ⟨n, pv, hup⟩ := fgB_pv hv
    have k0 : fdE v = if upB 1000 (rowF (tfF (nth v) 1 n) v.length) = true then 0 else 3 := by unfold fdE fdG; rw [hv, pv.pl]; rfl
    have k1 : fdLen v = if upB 1000 (rowF (tfF (nth v) 1 n) v.length) = true then v.length else 0 := by
      unfold fdLen
      rw [k0]
      cases upB 1000 (rowF (tfF (nth v) 1 n) v.length) <;> rfl
    have k2 : fdL v = if upB 1000 (rowF (tfF (nth v) 1 n) v.length) = true then rowF (tfF (nth v) 1 n) v.length else [] := by
      unfold fdL fdG
      rw [k0, pv.pl]
      cases upB 1000 (rowF (tfF (nth v) 1 n) v.length) <;> rfl
    have HP := Lib.hid (fun w h => addParts_any Av v cv n 1 (.inl rfl) pv hup w h)
    have HR := Lib.hid hr
    have h32 := pv.le
    rw [hv] at HV
    generalize fdE v = zE at *
    generalize fdLen v = zN at *
    generalize fdL v = zL at *
    generalize tfF (nth v) 1 n = F at *
    generalize v.length = L at *
    have HWl := Lib.hid (fun A c w (h : Rd w w.heap.size A (ints (rowF F L))) => show Calls Try.prog 68 #[.slice A L c] w fun e w' => e = .returned (.tuple #[if upB 1000 (rowF F L) = true then .slice A L c else .slice none 0 0, .int .i64 (if upB 1000 (rowF F L) = true then 0 else 3)]) ∧ Below w.heap.size w w' from by
      have := withinLimit_any A (rowF F L) c (by rw [rowF_len]; omega) w h
      rw [rowF_len] at this
      exact this)
    have K0 := Lib.hid k0
    have K1 := Lib.hid k1
    have K2 := Lib.hid k2
    clear hv hr k0 k1 k2 pv hup hl h32
    go_enter Try.func31, Try.ntmps31
    go_wp2_with fail
    refine HV.out.mono ?_
    rintro e w1 ⟨rfl, hb⟩
    have HB1 := Lib.hid hb
    have HP1 := Lib.hid (HP.out w1 ((HR.out.below hb (Nat.le_refl _)).more hb.size))
    clear hb
    go_wp2_with fail
    refine HP1.out.mono ?_
    rintro e w2 ⟨g, c, rfl, hg, hrow, hb⟩
    have HB2 := Lib.hid (HB1.out.trans (hb.mono HB1.out.size))
    have HF := Lib.hid hrow.rd
    have HW2 := Lib.hid (HWl.out (some ⟨g, 0, none⟩) c w2 hrow.rd)
    clear hb hrow
    generalize upB 1000 (rowF F L) = bb at *
    cases bb
    · have k1 : zE = 3 := K0.out
      have k2 : zN = 0 := K1.out
      have k3 : zL = [] := K2.out
      subst k1 k2 k3
      go_wp2_with fail
      refine HW2.out.mono ?_
      rintro e w3 ⟨rfl, hb⟩
      have HB3 := Lib.hid (HB2.out.trans (hb.mono HB2.out.size))
      clear hb
      go_wp2_with fail
      go_ret2
      exact ⟨none, 0, rfl, Rd.nil_, HB3.out⟩
    · have k1 : zE = 0 := K0.out
      have k2 : zN = L := K1.out
      have k3 : zL = rowF F L := K2.out
      subst k1 k2 k3
      go_wp2_with fail
      refine HW2.out.mono ?_
      rintro e w3 ⟨rfl, hb⟩
      have HB3 := Lib.hid (HB2.out.trans (hb.mono HB2.out.size))
      have HF3 := Lib.hid ((HF.out.below hb (Nat.le_refl _)).more hb.size)
      clear hb
      go_wp2_with fail
      go_ret2
      exact ⟨some ⟨g, 0, none⟩, c, rfl, HF3.out, HB3.out⟩
end Go.Proofs.Ytfmhanpibgmgfaa

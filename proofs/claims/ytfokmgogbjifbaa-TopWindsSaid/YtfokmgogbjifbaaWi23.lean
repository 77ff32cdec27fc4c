/-
  The walk of Apart of package wind. No condition.
-/
import Derived.Test.YtfokmgogbjifbaaWi22
namespace Go.Proofs.Ytfokmgogbjifbaa
open Go.RowKit
set_option linter.unusedVariables false

/-- The set that Apart returns, as a number. -/
def apM (l : List Pt) : Nat := mv (workN l) (2 ^ l.length - 1)
def apV (l : List Pt) : List Int := if pipesE l = 0 then listB (apM l).testBit else []
theorem workN_63 {l : List Pt} (h : l.length ≤ 10) (p : Nat) : workN l p < 9223372036854775808 := by have := workN_small h p; omega
theorem apM_most {l : List Pt} (h : l.length ≤ 10) : Good (workN l) (2 ^ l.length - 1) (apM l) ∧ ∀ x, Good (workN l) (2 ^ l.length - 1) x → cnt x ≤ cnt (apM l) :=
  mv_most (workN_63 h) _ (by have := pow_small h; omega)
set_option maxRecDepth 4000 in
set_option maxHeartbeats 400000 in
theorem Apart_any (A : Option Addr) (c : Nat) (l : List Pt) (w : World) (hr : Rd w w.heap.size A (l.flatMap Pt.cells)) (hn : l.length ≤ 9223372036854775807) :
    Calls Try.prog 8 #[.slice A l.length c] w (MadeIE w (apV l) (pipesE l)) := by
  have HR := Lib.hid hr
  have HV := Lib.hid (fun w h => ValidatePipes_any A c l w h hn)
  clear hr
  by_cases hE : pipesE l = 0
  · obtain ⟨h10, _⟩ := pipesE_zero hE
    have HM := Lib.hid (fun w h => mostApart_any A c l w h hE)
    have HP := Lib.hid (fun w => everyPipe_any A c l.length w h10)
    have hml := (apM_most h10).1.1
    have HL := Lib.hid (fun w => list_any (apM l) w hml)
    have e2 : apV l = listB (apM l).testBit := if_pos hE
    have hpow := pow_small h10
    have hpos := Nat.two_pow_pos l.length
    have HAt := Lib.hid (show (rowV (mF (workN l) (2 ^ l.length) 0) (2 ^ l.length))[2 ^ l.length - 1]? = some (.int .u32 ((apM l : Nat) : Int)) by
      rw [rowV_at (by omega), mF_old (by omega)]
      rfl)
    rw [e2, hE]
    rw [hE] at HV
    unfold MadeT at HM
    clear hE e2
    generalize rowV (mF (workN l) (2 ^ l.length) 0) (2 ^ l.length) = row at *
    generalize hJ : 2 ^ l.length - 1 = J at *
    generalize hN : 2 ^ l.length = N at *
    generalize apM l = M at *
    have j1 : J < N := by omega
    have j2 : (J : Int) < (N : Int) := by omega
    have j0 : (0 : Int) ≤ (J : Int) := by omega
    clear hJ hN hpos
    unfold hasV at HL
    go_enter Try.func8, Try.ntmps8
    go_wp2_with fail
    refine (HV.out w HR.out).mono ?_
    rintro e w1 ⟨rfl, hb⟩
    have B1 := Lib.hid hb
    have R1 := Lib.hid ((HR.out.below hb (Nat.le_refl _)).more hb.size)
    clear hb
    go_wp2_with fail
    refine (HM.out w1 R1.out).mono ?_
    rintro e w2 ⟨g, rfl, hblk, hb⟩
    have B2 := Lib.hid (B1.out.trans (hb.mono B1.out.size))
    have hc : w2.cell? ⟨g, J, none⟩ = some (.int .u32 (M : Int)) := by rw [blk_cell hblk]; exact HAt.out
    have hg := lt_of_block hblk
    clear hblk hb
    go_wp2_with fail
    refine (HP.out w2).mono ?_
    rintro e w' ⟨rfl, rfl⟩
    go_wp2_with fail
    refine (HL.out w2).mono ?_
    rintro e w3 ⟨A3, c3, rfl, hc3, hr3, hb3⟩
    go_wp2_with fail
    go_ret2
    exact ⟨A3, c3, rfl, hc3, hr3, B2.out.trans (hb3.mono B2.out.size)⟩
  · have e2 : apV l = [] := if_neg hE
    rw [e2]
    generalize pipesE l = E at *
    have hb1 : (E == 0) = false := by simpa using hE
    have hb2 : (E != 0) = true := by simpa using hE
    clear hE e2
    go_enter Try.func8, Try.ntmps8
    go_wp2_with fail
    refine (HV.out w HR.out).mono ?_
    rintro e w1 ⟨rfl, hb⟩
    have B1 := Lib.hid hb
    clear hb
    go_wp2_with fail
    go_ret2
    exact ⟨none, 0, rfl, by decide, .inl rfl, B1.out⟩
end Go.Proofs.Ytfokmgogbjifbaa

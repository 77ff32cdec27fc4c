/-
  The walk of IsApart of the reference, on what Apart returns. No condition.
-/
import Derived.Test.YtnnlbllkckakbaaDoorWi24
namespace Go.Proofs.YtnnlbllkckakbaaDoor
open Go.RowKit
set_option linter.unusedVariables false

theorem wk_some {l : List Pt} {p : Nat} (h : workN l p ≠ 0) : ((((wkL l p).length : Nat) : Int) == 0) = false := by
  refine beq_eq_false_iff_ne.2 fun h0 => h ?_
  have h1 := sumP_list (workB l p) l.length
  have h2 : listK (workB l p) l.length = [] := List.eq_nil_of_length_eq_zero (by unfold wkL at h0; omega)
  rw [h2] at h1
  exact h1.symm
set_option maxRecDepth 4000 in
set_option maxHeartbeats 1600000 in
theorem rIsApart_yes (A1 A2 : Option Addr) (c1 c2 : Nat) (l : List Pt) (w : World) (hr1 : Rd w w.heap.size A1 (l.flatMap Pt.cells)) (hr2 : Rd w w.heap.size A2 (ints (apV l))) (hn1 : l.length ≤ 9223372036854775807) (hE : pipesE l = 0) :
    Calls Tryd.prog 51 #[.slice A1 l.length c1, .slice A2 (apV l).length c2] w fun e w' => e = .returned (.bool true) ∧ Below w.heap.size w w' := by
  obtain ⟨h10, _⟩ := pipesE_zero hE
  obtain ⟨g1, g2, g3⟩ := apV_good h10
  have eV : apV l = listB (apM l).testBit := if_pos hE
  rw [eV] at hr2 ⊢
  have R1 := Lib.hid hr1
  have R2 := Lib.hid hr2
  have eM : mostV l = (((listB (apM l).testBit).length : Nat) : Int) := by rw [g3]; exact if_pos hE
  have HM := Lib.hid (fun w h => rMost_any A1 c1 l w h hn1)
  have hL32 := listB_le (apM l).testBit
  have HS := Lib.hid (fun w h => risList_any A2 c2 (listB (apM l).testBit) 32 31 w h (by omega) (by omega))
  have HA := Lib.hid (fun w h g => rapart_any A1 A2 c1 c2 l (listB (apM l).testBit) w h g hE g1 (by omega))
  have HW := Lib.hid (fun p w h hp => rworkable_any A1 c1 l p w h hE hp)
  have HWs := Lib.hid (show ∀ d, d ∈ listB (apM l).testBit → ∃ p : Nat, d = (p : Int) ∧ p < 32 ∧ ((((wkL l p).length : Nat) : Int) == 0) = false from fun d hd => by
    obtain ⟨p, rfl, hp, hb⟩ := listK_mem hd
    exact ⟨p, rfl, hp, wk_some ((apM_most h10).1.2.1 p hp hb).1⟩)
  rw [eM, hE] at HM
  rw [g1] at HS
  rw [g2] at HA
  clear hr1 hr2 eM eV g1 g2 g3 hE
  generalize listB (apM l).testBit = L at *
  go_enter Tryd.func51, Tryd.ntmps51
  go_wp2_with fail
  refine (HM.out w R1.out).mono ?_
  rintro e w1 ⟨rfl, hb⟩
  have B1 := Lib.hid hb
  have S1 := Lib.hid ((R1.out.below hb (Nat.le_refl _)).more hb.size)
  have S2 := Lib.hid ((R2.out.below hb (Nat.le_refl _)).more hb.size)
  clear hb
  go_wp2_with fail
  refine (HS.out w1 S2.out).mono ?_
  rintro e w' ⟨rfl, m, rfl⟩
  go_wp2_with fail
  refine (HA.out (w1.drewN m) S1.out S2.out).mono ?_
  rintro e w2 ⟨rfl, hb⟩
  have B2 := Lib.hid hb
  have T1 := Lib.hid ((S1.out.below (below_drewN (Below.refl w1.heap.size w1) m) (Nat.le_refl _)).below hb (Nat.le_refl _))
  have T2 := Lib.hid ((S2.out.below (below_drewN (Below.refl w1.heap.size w1) m) (Nat.le_refl _)).below hb (Nat.le_refl _))
  have Z := hb.size
  have BB := Lib.hid (B1.out.trans ((below_drewN (Below.refl w1.heap.size w1) m |>.trans hb).mono B1.out.size))
  have T1' := Lib.hid (T1.out.more Z)
  have T2' := Lib.hid (T2.out.more Z)
  clear hb Z T1 T2
  go_wp2_with fail
  go_loopw [7] (fun i wr => ∃ k : Nat, k ≤ L.length ∧ i = .int .i64 k ∧ Below w2.heap.size w2 wr) (fun i _ => L.length - (intOf i).toNat)
  case atStart => exact ⟨0, by omega, rfl, Below.refl _ _⟩
  case round =>
    obtain ⟨k, hk, rfl, hb⟩ := hrel
    have BV := Lib.hid hb
    have U1 := Lib.hid ((T1'.out.below hb (Nat.le_refl _)).more hb.size)
    have U2 := Lib.hid ((T2'.out.below hb (Nat.le_refl _)).more hb.size)
    clear hb
    by_cases hlk : k < L.length
    · obtain ⟨b, o, d, rfl, hd, hc⟩ := U2.out.int k hlk
      obtain ⟨p, rfl, hp, hz⟩ := HWs.out d (List.mem_of_getElem? hd.out)
      have HWp := Lib.hid (fun w h => HW.out p w h hp)
      unfold MadeI at HWp
      generalize wkL l p = K at *
      go_wp2_with fail
      refine (HWp.out wr U1.out).mono ?_
      rintro e w4 ⟨A4, c4, rfl, hc4, hr4, hb⟩
      have B4 := Lib.hid (BV.out.trans (hb.mono BV.out.size))
      clear hb hr4
      go_wp2_with fail
      go_roundw
      case rel => exact ⟨k + 1, by omega, by go_num, B4.out⟩
      case measure => simp [intOf]; omega
    · obtain rfl : k = L.length := by omega
      go_wp2_with fail
      go_ret
      exact ⟨rfl, BB.out.trans (BV.out.mono BB.out.size)⟩
end Go.Proofs.YtnnlbllkckakbaaDoor

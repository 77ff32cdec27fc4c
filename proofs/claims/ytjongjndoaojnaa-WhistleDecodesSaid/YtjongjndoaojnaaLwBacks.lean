/-
  WhistleBacks: the walk. Condition: the code can be read.
-/
import Derived.Test.YtjongjndoaojnaaBk2
namespace Go.Proofs.Ytjongjndoaojnaa
open Go.RowKit
set_option linter.unusedVariables false

theorem Rd.go {w w' : World} {B0 : Nat} {A : Option Addr} {xs : List Value} (h : Rd w w.heap.size A xs) (hb : Below w.heap.size w w') : Rd w' w'.heap.size A xs := (h.below hb (Nat.le_refl _)).more hb.size
theorem bd_drew {w w' : World} {m : Nat} (h : w' = w.drewN m) : Below w.heap.size w w' := by rw [h]; exact bdN (Below.refl _ _) m
/-- Two lists that are one are equal. -/
theorem Same_self (A A' : Option Addr) (c c' : Nat) (a : List ByteArray) (w : World) (hr : Rd w w.heap.size A (txts a)) (hr' : Rd w w.heap.size A' (txts a)) (hl : a.length ≤ 9223372036854775807) :
    Calls Try.prog 30 #[.slice A a.length c, .slice A' a.length c'] w fun e w' => e = .returned (.bool true) ∧ Below w.heap.size w w' := by
  refine (SameTexts_any A A' c c' a a w hr hr' hl hl).mono ?_
  rintro e w' ⟨rfl, m, hm⟩
  exact ⟨by rw [show eqT a a = true from decide_eq_true rfl], bd_drew hm⟩
set_option maxRecDepth 8000 in
set_option maxHeartbeats 4000000 in
theorem Backs_walk (A : Option Addr) (c : Nat) (C : List ByteArray) (w : World) (hr : Rd w w.heap.size A (txts C)) (hs : Sz C) (hl : C.length ≤ c) (hc : c ≤ maxLen) :
    Calls Try.prog 10 #[.slice A C.length c] w fun e w' => e = .returned (.bool true) ∧ Below w.heap.size w w' := by
  have hc' : c ≤ 9223372036854775807 := by unfold maxLen at hc; omega
  have HR := Lib.hid hr
  have HS := Lib.hid hs
  have HL := Lib.hid (Long_any A c C w hr (by omega))
  have HKN := Lib.hid known_any
  clear hr hs
  cases hlo : longB C
  · rw [hlo] at HL
    clear hlo
    go_enter Try.func10, Try.ntmps10
    go_wp2_with fail
    refine (HL.out).mono ?_
    rintro e w' ⟨rfl, rfl⟩
    go_wp2_with fail
    refine (Back_any A c C w HR.out HS.out hl hc').mono ?_
    rintro e w1 ⟨A1, c1, rfl, hl1, hc1, hr1, hb⟩
    have B1 := Lib.hid hb
    have R1 := Lib.hid (HR.out.go (B0 := 0) hb)
    have P1 := Lib.hid hr1
    clear hb hr1
    go_wp2_with fail
    refine (rBack_any A c C w1 R1.out HS.out hl hc').mono ?_
    rintro e w2 ⟨A2, c2, rfl, hl2, hc2, hr2, hb⟩
    have B2 := Lib.hid (B1.out.trans (hb.mono B1.out.size))
    have R2 := Lib.hid (R1.out.go (B0 := 0) hb)
    have P2 := Lib.hid (P1.out.go (B0 := 0) hb)
    have Q2 := Lib.hid hr2
    clear hb hr2
    have hbl : (bkL C).length ≤ 9223372036854775807 := by unfold maxLen at hc1; omega
    have e0 : (vE C != vE C) = false := by simp
    go_wp2_with fail
    refine (Same_self A1 A2 c1 c2 (bkL C) w2 P2.out Q2.out hbl).mono ?_
    rintro e w3 ⟨rfl, hb⟩
    have B3 := Lib.hid (B2.out.trans (hb.mono B2.out.size))
    have R3 := Lib.hid (R2.out.go (B0 := 0) hb)
    have P3 := Lib.hid (P2.out.go (B0 := 0) hb)
    clear hb
    by_cases hv : vE C = 0
    · have HVd := Lib.hid (vE_ok hv)
      have HB := Lib.hid (show bkL C = C.map revB from if_pos hv)
      have HE2 := Lib.hid (vE_of HVd.out.back)
      have HB2 := Lib.hid (show bkL (bkL C) = C by
        rw [HB.out]
        unfold bkL
        rw [if_pos HE2.out, List.map_map]
        conv => rhs; rw [← List.map_id C]
        exact List.map_congr_left fun s _ => revB_revB s)
      have HSF := Lib.hid (show sfB (bkL C) = sfB C by
        unfold sfB
        rw [HB.out, if_pos HE2.out, if_pos hv, safe_backC HVd.out])
      have HVB := Lib.hid (show vE (bkL C) = 0 by rw [HB.out]; exact HE2.out)
      have HSZ := Lib.hid (show Sz (bkL C) from fun s hs => by
        rw [HB.out] at hs
        have := (sgB_iff.1 (HVd.out.back.sg s hs)).2.1
        omega)
      have e1 : (vE C != 0) = false := by rw [hv]; rfl
      have e2 : (vE C == 0) = true := by rw [hv]; rfl
      have HV0 := Lib.hid hv
      clear hv
      go_wp2_with fail
      refine (Back_any A1 c1 (bkL C) w3 P3.out HSZ.out hl1 (by unfold maxLen at hc1; omega)).mono ?_
      rintro e w4 ⟨A4, c4, rfl, hl4, hc4, hr4, hb⟩
      rw [HB2.out, HVB.out]
      rw [HB2.out] at hl4 hr4
      have B4 := Lib.hid (B3.out.trans (hb.mono B3.out.size))
      have R4 := Lib.hid (R3.out.go (B0 := 0) hb)
      have P4 := Lib.hid (P3.out.go (B0 := 0) hb)
      have Q4 := Lib.hid hr4
      clear hb hr4
      go_wp2_with fail
      refine (IsSafe_any A c C w4 R4.out HS.out hl hc').mono ?_
      rintro e w5 ⟨rfl, hb⟩
      rw [HV0.out]
      have B5 := Lib.hid (B4.out.trans (hb.mono B4.out.size))
      have R5 := Lib.hid (R4.out.go (B0 := 0) hb)
      have P5 := Lib.hid (P4.out.go (B0 := 0) hb)
      have Q5 := Lib.hid (Q4.out.go (B0 := 0) hb)
      clear hb
      go_wp2_with fail
      refine (IsSafe_any A1 c1 (bkL C) w5 P5.out HSZ.out hl1 (by unfold maxLen at hc1; omega)).mono ?_
      rintro e w6 ⟨rfl, hb⟩
      rw [HSF.out, HVB.out]
      have B6 := Lib.hid (B5.out.trans (hb.mono B5.out.size))
      have R6 := Lib.hid (R5.out.go (B0 := 0) hb)
      have Q6 := Lib.hid (Q5.out.go (B0 := 0) hb)
      clear hb
      generalize sfB C = sf at *
      have e3 : (sf == sf) = true := by simp
      go_wp2_with fail
      refine (Same_self A4 A c4 c C w6 Q6.out R6.out (by omega)).mono ?_
      rintro e w7 ⟨rfl, hb⟩
      have B7 := Lib.hid (B6.out.trans (hb.mono B6.out.size))
      clear hb
      go_wp2_with fail
      refine (HKN.out w7).mono ?_
      rintro e w8 ⟨rfl, hb⟩
      have B8 := Lib.hid (B7.out.trans (hb.mono B7.out.size))
      clear hb
      go_wp2_with fail
      go_ret
      exact ⟨rfl, B8.out⟩
    · have e1 : (vE C != 0) = true := by simpa using hv
      clear hv
      go_wp2_with fail
      refine (HKN.out w3).mono ?_
      rintro e w8 ⟨rfl, hb⟩
      have B8 := Lib.hid (B3.out.trans (hb.mono B3.out.size))
      clear hb
      go_wp2_with fail
      go_ret
      exact ⟨rfl, B8.out⟩
  · rw [hlo] at HL
    clear hlo
    go_enter Try.func10, Try.ntmps10
    go_wp2_with fail
    refine (HL.out).mono ?_
    rintro e w' ⟨rfl, rfl⟩
    go_wp2_with fail
    refine (HKN.out w).mono ?_
    rintro e w8 ⟨rfl, hb⟩
    go_wp2_with fail
    go_ret
    exact ⟨rfl, hb⟩
end Go.Proofs.Ytjongjndoaojnaa

/-
  The walk of the law WindApart: it returns true. Conditions: 'Tabs', and that the slices can be read.
-/
import Derived.Test.YtnnlbllkckakbaaDoorWi25
import Derived.Test.YtnnlbllkckakbaaDoorLwFewest
namespace Go.Proofs.YtnnlbllkckakbaaDoor
open Go.RowKit
set_option linter.unusedVariables false

set_option maxHeartbeats 1600000 in
set_option maxRecDepth 4000 in
theorem WindApart_walk (A1 A3 : Option Addr) (c1 c3 : Nat) (l : List Pt) (W : List Int) (w : World) (hr1 : Rd w w.heap.size A1 (l.flatMap Pt.cells)) (hr3 : Rd w w.heap.size A3 (ints W)) (ht : Tabs w) (hm1 : l.length ≤ c1) (hcm1 : c1 ≤ maxLen) (hm3 : W.length ≤ c3) (hcm3 : c3 ≤ maxLen) :
    Calls Tryd.prog 11 #[.slice A1 l.length c1, .slice A3 W.length c3] w fun e w' => e = .returned (.bool true) ∧ Below w.heap.size w w' := by
  have HT := Lib.hid ht
  have R1 := Lib.hid hr1
  have R3 := Lib.hid hr3
  clear ht hr1 hr3
  unfold maxLen at hcm1 hcm3
  have hn1 : l.length ≤ 9223372036854775807 := by omega
  have hn3 : W.length ≤ 9223372036854775807 := by omega
  cases hlong : decide (60 < l.length)
  · have HM := Lib.hid (fun w => Many_any A1 c1 l.length false w hn1 hlong)
    clear hlong
    by_cases h3 : (60 : Int) < (W.length : Int)
    · have e3 : decide ((60 : Int) < (W.length : Int)) = true := by simp; omega
      clear h3
      go_enter Tryd.func11, Tryd.ntmps11
      go_wp2_with fail
      refine (HM.out w).mono ?_
      rintro e w' ⟨rfl, rfl⟩
      go_wp2_with fail
      refine (known_ok w HT.out).mono ?_
      rintro e w1 ⟨rfl, hb⟩
      have B1 := Lib.hid hb
      clear hb
      go_wp2_with fail
      go_ret
      exact ⟨rfl, B1.out⟩
    have e3 : decide ((60 : Int) < (W.length : Int)) = false := by simp; omega
    clear h3
    have HC1 := Lib.hid (fun w h g => CheckApart_any A1 A3 c1 c3 l W w h g hn1 hn3)
    have HC2 := Lib.hid (fun w h g => rCheckApart_any A1 A3 c1 c3 l W w h g hn1 hn3)
    have HAp := Lib.hid (fun w h => Apart_any A1 c1 l w h hn1)
    have HMo := Lib.hid (fun w h => rMost_any A1 c1 l w h hn1)
    have HIs := Lib.hid (fun hE A2 c2 w h g => rIsApart_yes A1 A2 c1 c2 l w h g hn1 hE)
    have hempty : pipesE l ≠ 0 → apV l = [] := fun h => if_neg h
    generalize apE l W = E1 at *
    generalize mostV l = MV at *
    obtain ⟨E, hE⟩ : ∃ E, pipesE l = E := ⟨_, rfl⟩
    rw [hE] at HAp HMo HIs hempty
    clear hE
    unfold MadeIE at HAp
    generalize apV l = LA at *
    go_enter Tryd.func11, Tryd.ntmps11
    go_wp2_with fail
    refine (HM.out w).mono ?_
    rintro e w' ⟨rfl, rfl⟩
    go_wp2_with fail
    refine (HC1.out w R1.out R3.out).mono ?_
    rintro e w1 ⟨rfl, hb⟩
    have B1 := Lib.hid hb
    have S1 := Lib.hid ((R1.out.below hb (Nat.le_refl _)).more hb.size)
    have S3 := Lib.hid ((R3.out.below hb (Nat.le_refl _)).more hb.size)
    clear hb
    go_wp2_with fail
    refine (HC2.out w1 S1.out S3.out).mono ?_
    rintro e w2 ⟨rfl, hb⟩
    have B2 := Lib.hid (B1.out.trans (hb.mono B1.out.size))
    have T1 := Lib.hid ((S1.out.below hb (Nat.le_refl _)).more hb.size)
    clear hb
    go_wp2_with fail
    refine (HAp.out w2 T1.out).mono ?_
    rintro e w3 ⟨A4, c4, rfl, hc4, hr4, hb⟩
    have B3 := Lib.hid (B2.out.trans (hb.mono B2.out.size))
    have U1 := Lib.hid ((T1.out.below hb (Nat.le_refl _)).more hb.size)
    have P4 := Lib.hid hr4
    clear hb hr4
    go_wp2_with fail
    refine (HMo.out w3 U1.out).mono ?_
    rintro e w4 ⟨rfl, hb⟩
    have B4 := Lib.hid (B3.out.trans (hb.mono B3.out.size))
    have V1 := Lib.hid ((U1.out.below hb (Nat.le_refl _)).more hb.size)
    have P5 := Lib.hid ((P4.out.below hb (Nat.le_refl _)).more hb.size)
    clear hb
    by_cases h0 : E = 0
    · subst h0
      clear hempty
      go_wp2_with fail
      refine (HIs.out trivial A4 c4 w4 V1.out P5.out).mono ?_
      rintro e w5 ⟨rfl, hb⟩
      have B5 := Lib.hid (B4.out.trans (hb.mono B4.out.size))
      clear hb
      go_wp2_with fail
      refine (known_ok _ (HT.out.below' B5.out)).mono ?_
      rintro e w8 ⟨rfl, hb⟩
      go_wp2_with fail
      go_ret
      exact ⟨rfl, B5.out.trans (hb.mono B5.out.size)⟩
    · have b1 : (E == 0) = false := by simpa using h0
      have b2 : (E != 0) = true := by simpa using h0
      obtain rfl : LA = [] := hempty h0
      clear hempty h0
      go_wp2_with fail
      refine (known_ok _ (HT.out.below' B4.out)).mono ?_
      rintro e w8 ⟨rfl, hb⟩
      go_wp2_with fail
      go_ret
      exact ⟨rfl, B4.out.trans (hb.mono B4.out.size)⟩
  · have HM := Lib.hid (fun w => Many_any A1 c1 l.length true w hn1 hlong)
    clear hlong
    go_enter Tryd.func11, Tryd.ntmps11
    go_wp2_with fail
    refine (HM.out w).mono ?_
    rintro e w' ⟨rfl, rfl⟩
    go_wp2_with fail
    refine (known_ok w HT.out).mono ?_
    rintro e w1 ⟨rfl, hb⟩
    have B1 := Lib.hid hb
    clear hb
    go_wp2_with fail
    go_ret
    exact ⟨rfl, B1.out⟩
end Go.Proofs.YtnnlbllkckakbaaDoor

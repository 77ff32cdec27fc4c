/-
  The walk of the law WindProves: it returns true. Conditions: 'Tabs', and that the slices can be read.
-/
import Derived.Test.YtnnlbllkckakbaaDoorWb7
import Derived.Test.YtnnlbllkckakbaaDoorLwFewest
namespace Go.Proofs.YtnnlbllkckakbaaDoor
open Go.RowKit
set_option linter.unusedVariables false

theorem apE_zero {l : List Pt} {L : List Int} (h : apE l L = 0) : pipesE l = 0 ∧ setL 32 L = true ∧ apB l L = true := by
  unfold apE at h
  split at h
  · rename_i h1
    split at h
    · rename_i h2
      refine ⟨h1, h2, ?_⟩
      cases hb : apB l L
      · rw [hb] at h; cases h
      · rfl
    · cases h
  · contradiction
set_option maxHeartbeats 1600000 in
set_option maxRecDepth 4000 in
theorem WindProves_walk (A1 A2 A3 : Option Addr) (c1 c2 c3 : Nat) (l : List Pt) (C W : List Int) (w : World) (hr1 : Rd w w.heap.size A1 (l.flatMap Pt.cells)) (hr2 : Rd w w.heap.size A2 (ints C)) (hr3 : Rd w w.heap.size A3 (ints W)) (ht : Tabs w) (hm1 : l.length ≤ c1) (hcm1 : c1 ≤ maxLen) (hm2 : C.length ≤ c2) (hcm2 : c2 ≤ maxLen) (hm3 : W.length ≤ c3) (hcm3 : c3 ≤ maxLen) :
    Calls Tryd.prog 12 #[.slice A1 l.length c1, .slice A2 C.length c2, .slice A3 W.length c3] w fun e w' => e = .returned (.bool true) ∧ Below w.heap.size w w' := by
  have HT := Lib.hid ht
  have R1 := Lib.hid hr1
  have R2 := Lib.hid hr2
  have R3 := Lib.hid hr3
  clear ht hr1 hr2 hr3
  unfold maxLen at hcm1 hcm2 hcm3
  have hn1 : l.length ≤ 9223372036854775807 := by omega
  have hn2 : C.length ≤ 9223372036854775807 := by omega
  have hn3 : W.length ≤ 9223372036854775807 := by omega
  cases hlong : decide (60 < l.length)
  · have HM := Lib.hid (fun w => Many_any A1 c1 l.length false w hn1 hlong)
    clear hlong
    by_cases h2 : (60 : Int) < (C.length : Int)
    · have e2 : decide ((60 : Int) < (C.length : Int)) = true := by simp; omega
      clear h2
      go_enter Tryd.func12, Tryd.ntmps12
      go_wp2_with fail
      refine (HM.out w).mono ?_
      rintro e w' ⟨rfl, rfl⟩
      go_wp2_with fail
      refine (known_ok w HT.out).mono ?_
      rintro e w1 ⟨rfl, hb⟩
      have B1 := Lib.hid hb
      clear hb
      go_wp2_with fail
      go_ret
      exact ⟨rfl, B1.out⟩
    have e2 : decide ((60 : Int) < (C.length : Int)) = false := by simp; omega
    by_cases h3 : (60 : Int) < (W.length : Int)
    · have e3 : decide ((60 : Int) < (W.length : Int)) = true := by simp; omega
      clear h2 h3
      go_enter Tryd.func12, Tryd.ntmps12
      go_wp2_with fail
      refine (HM.out w).mono ?_
      rintro e w' ⟨rfl, rfl⟩
      go_wp2_with fail
      refine (known_ok w HT.out).mono ?_
      rintro e w1 ⟨rfl, hb⟩
      have B1 := Lib.hid hb
      clear hb
      go_wp2_with fail
      go_ret
      exact ⟨rfl, B1.out⟩
    have e3 : decide ((60 : Int) < (W.length : Int)) = false := by simp; omega
    clear h2 h3
    have HCv := Lib.hid (fun w h g => Covers_any A1 A2 c1 c2 l C w h g hn1 hn2)
    by_cases hE : covE l C = 0
    · obtain ⟨hp0, hsC⟩ := covE_zero hE
      rw [hE] at HCv
      cases hv : covV l C
      · rw [hv] at HCv
        clear hE hp0 hsC hv
        go_enter Tryd.func12, Tryd.ntmps12
        go_wp2_with fail
        refine (HM.out w).mono ?_
        rintro e w' ⟨rfl, rfl⟩
        go_wp2_with fail
        refine (HCv.out w R1.out R2.out).mono ?_
        rintro e w1 ⟨rfl, hb⟩
        have B1 := Lib.hid hb
        clear hb
        go_wp2_with fail
        refine (known_ok _ (HT.out.below' B1.out)).mono ?_
        rintro e w8 ⟨rfl, hb⟩
        go_wp2_with fail
        go_ret
        exact ⟨rfl, B1.out.trans (hb.mono B1.out.size)⟩
      · have hcv : covN l (memB C) = 4294967295 := by
          unfold covV at hv
          rw [Bool.and_eq_true] at hv
          exact of_decide_eq_true hv.2
        rw [hv] at HCv
        clear hE hv
        have HCk := Lib.hid (fun w h g => CheckApart_any A1 A3 c1 c3 l W w h g hn1 hn3)
        by_cases hA : apE l W = 0
        · obtain ⟨_, hsW, hap⟩ := apE_zero hA
          obtain ⟨h10, _⟩ := pipesE_zero hp0
          obtain ⟨hok, hfl, P, hP, hPc⟩ := few_le hp0 hsC hcv
          obtain ⟨g1, g2, g3⟩ := apV_good h10
          have hall : ∀ p, p < 32 → covB l (fun _ => true) p = true := fun p hp => by
            cases hb : covB l (memB C) p
            · exact absurd hcv (cov_lack hp hb)
            · unfold covB covK at hb ⊢
              rw [List.any_eq_true] at hb ⊢
              obtain ⟨i, hi, hx⟩ := hb
              rw [Bool.and_eq_true] at hx
              exact ⟨i, hi, by rw [Bool.true_and]; exact hx.2⟩
          obtain ⟨k1, k2⟩ := apart_good hsW hap hall
          have k3 := (apM_most h10).2 _ k1
          have eV : apV l = listB (apM l).testBit := if_pos hp0
          have n1 : W.length ≤ C.length := apart_cover hsW hap hsC hcv
          have n2 : (apV l).length ≤ (fewL l).length := by
            rw [eV, hP]
            exact apart_cover g1 g2 (setL_listK _ _) (by rw [covN_congr (g := P.testBit) fun i hi => memB_listK _ _ _ hi]; exact hPc)
          have n3 : W.length ≤ (apV l).length := by rw [eV, g3, ← k2]; exact k3
          have HAp := Lib.hid (fun w h => Apart_any A1 c1 l w h hn1)
          have HFw := Lib.hid (fun w h => Fewest_any A1 c1 l w h hn1)
          rw [hA] at HCk
          rw [hp0] at HAp HFw
          rw [hok] at HFw
          unfold MadeIE at HAp
          unfold MadeF at HFw
          clear hA hp0 hsC hsW hap h10 hP hPc g1 g2 g3 hall k1 k2 k3 eV hcv hok
          generalize apV l = LA at *
          generalize fewL l = LF at *
          have j1 : decide (W.length ≤ C.length) = true := decide_eq_true n1
          have j2 : decide (LA.length ≤ LF.length) = true := decide_eq_true n2
          have j3 : decide (W.length ≤ LA.length) = true := decide_eq_true n3
          have j4 : decide (LF.length ≤ C.length) = true := decide_eq_true hfl
          have i1 : decide ((W.length : Int) ≤ (C.length : Int)) = true := by simp; omega
          have i2 : decide ((LA.length : Int) ≤ (LF.length : Int)) = true := by simp; omega
          have i3 : decide ((W.length : Int) ≤ (LA.length : Int)) = true := by simp; omega
          have i4 : decide ((LF.length : Int) ≤ (C.length : Int)) = true := by simp; omega
          go_enter Tryd.func12, Tryd.ntmps12
          go_wp2_with fail
          refine (HM.out w).mono ?_
          rintro e w' ⟨rfl, rfl⟩
          go_wp2_with fail
          refine (HCv.out w R1.out R2.out).mono ?_
          rintro e w1 ⟨rfl, hb⟩
          have B1 := Lib.hid hb
          have S1 := Lib.hid ((R1.out.below hb (Nat.le_refl _)).more hb.size)
          have S3 := Lib.hid ((R3.out.below hb (Nat.le_refl _)).more hb.size)
          clear hb
          go_wp2_with fail
          refine (HCk.out w1 S1.out S3.out).mono ?_
          rintro e w2 ⟨rfl, hb⟩
          have B2 := Lib.hid (B1.out.trans (hb.mono B1.out.size))
          have T1 := Lib.hid ((S1.out.below hb (Nat.le_refl _)).more hb.size)
          clear hb
          go_wp2_with fail
          refine (HAp.out w2 T1.out).mono ?_
          rintro e w3 ⟨A4, c4, rfl, hc4, hr4, hb⟩
          have B3 := Lib.hid (B2.out.trans (hb.mono B2.out.size))
          have U1 := Lib.hid ((T1.out.below hb (Nat.le_refl _)).more hb.size)
          clear hb hr4
          go_wp2_with fail
          refine (HFw.out w3 U1.out).mono ?_
          rintro e w4 ⟨A5, c5, rfl, hc5, hr5, hb⟩
          have B4 := Lib.hid (B3.out.trans (hb.mono B3.out.size))
          clear hb hr5
          go_wp2_with fail
          refine (known_ok _ (HT.out.below' B4.out)).mono ?_
          rintro e w8 ⟨rfl, hb⟩
          go_wp2_with fail
          go_ret
          exact ⟨rfl, B4.out.trans (hb.mono B4.out.size)⟩
        · generalize apE l W = E at *
          have b1 : (E == 0) = false := by simpa using hA
          have b2 : (E != 0) = true := by simpa using hA
          clear hA hp0 hsC hcv
          go_enter Tryd.func12, Tryd.ntmps12
          go_wp2_with fail
          refine (HM.out w).mono ?_
          rintro e w' ⟨rfl, rfl⟩
          go_wp2_with fail
          refine (HCv.out w R1.out R2.out).mono ?_
          rintro e w1 ⟨rfl, hb⟩
          have B1 := Lib.hid hb
          have S1 := Lib.hid ((R1.out.below hb (Nat.le_refl _)).more hb.size)
          have S3 := Lib.hid ((R3.out.below hb (Nat.le_refl _)).more hb.size)
          clear hb
          go_wp2_with fail
          refine (HCk.out w1 S1.out S3.out).mono ?_
          rintro e w2 ⟨rfl, hb⟩
          have B2 := Lib.hid (B1.out.trans (hb.mono B1.out.size))
          clear hb
          go_wp2_with fail
          refine (known_ok _ (HT.out.below' B2.out)).mono ?_
          rintro e w8 ⟨rfl, hb⟩
          go_wp2_with fail
          go_ret
          exact ⟨rfl, B2.out.trans (hb.mono B2.out.size)⟩
    · generalize covE l C = E at *
      generalize covV l C = V at *
      have b1 : (E == 0) = false := by simpa using hE
      have b2 : (E != 0) = true := by simpa using hE
      clear hE
      go_enter Tryd.func12, Tryd.ntmps12
      go_wp2_with fail
      refine (HM.out w).mono ?_
      rintro e w' ⟨rfl, rfl⟩
      go_wp2_with fail
      refine (HCv.out w R1.out R2.out).mono ?_
      rintro e w1 ⟨rfl, hb⟩
      have B1 := Lib.hid hb
      clear hb
      go_wp2_with fail
      refine (known_ok _ (HT.out.below' B1.out)).mono ?_
      rintro e w8 ⟨rfl, hb⟩
      go_wp2_with fail
      go_ret
      exact ⟨rfl, B1.out.trans (hb.mono B1.out.size)⟩
  · have HM := Lib.hid (fun w => Many_any A1 c1 l.length true w hn1 hlong)
    clear hlong
    go_enter Tryd.func12, Tryd.ntmps12
    go_wp2_with fail
    refine (HM.out w).mono ?_
    rintro e w' ⟨rfl, rfl⟩
    go_wp2_with fail
    refine (known_ok w HT.out).mono ?_
    rintro e w1 ⟨rfl, hb⟩
    have B1 := Lib.hid hb
    clear hb
    go_wp2_with fail
    go_ret
    exact ⟨rfl, B1.out⟩
end Go.Proofs.YtnnlbllkckakbaaDoor

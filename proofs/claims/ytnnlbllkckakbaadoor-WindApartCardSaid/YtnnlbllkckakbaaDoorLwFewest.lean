/-
  The walk of the law WindFewest: it returns true. Conditions: 'Tabs', and that the slice can be read.
-/
import Derived.Test.YtnnlbllkckakbaaDoorWi19
import Derived.Test.YtnnlbllkckakbaaDoorLwCovers
namespace Go.Proofs.YtnnlbllkckakbaaDoor
open Go.RowKit
set_option linter.unusedVariables false

theorem fewL_len (l : List Pt) : (fewL l).length ≤ 32 := by
  unfold fewL
  split
  · exact listB_le _
  · simp
theorem few_lee {l : List Pt} (h : pipesE l = 0) : (leeV l == 0) = fewOk l := by
  have h1 := lee_cov h
  have h2 : leeV l = (leeN l : Nat) := if_pos h
  have h3 : fewOk l = covF l (2 ^ l.length - 1) := by simp [fewOk, h]
  rw [h3, ← h1, h2]
  cases hb : decide (leeN l = 0)
  · have : ¬ leeN l = 0 := of_decide_eq_false hb
    exact beq_eq_false_iff_ne.2 (by omega)
  · have : leeN l = 0 := of_decide_eq_true hb
    exact beq_iff_eq.2 (by omega)
set_option maxHeartbeats 1600000 in
set_option maxRecDepth 4000 in
theorem WindFewest_walk (A : Option Addr) (c : Nat) (l : List Pt) (w : World) (hr : Rd w w.heap.size A (l.flatMap Pt.cells)) (ht : Tabs w) (hm : l.length ≤ c) (hcm : c ≤ maxLen) :
    Calls Tryd.prog 10 #[.slice A l.length c] w fun e w' => e = .returned (.bool true) ∧ Below w.heap.size w w' := by
  have HT := Lib.hid ht
  have HR := Lib.hid hr
  clear ht hr
  unfold maxLen at hcm
  have hn : l.length ≤ 9223372036854775807 := by omega
  cases hlong : decide (60 < l.length)
  · have HM := Lib.hid (fun w => Many_any A c l.length false w hn hlong)
    have C1 := Lib.hid (fun w h => Fewest_any A c l w h hn)
    have C2 := Lib.hid (fun w h => rFewest_any A c l w h hn)
    have C3 := Lib.hid (fun w h => Lee_any A c l w h hn)
    have hlen := fewL_len l
    have hlee := fun h => few_lee (l := l) h
    clear hlong hm
    unfold MadeF at C1 C2
    obtain ⟨E, hE⟩ : ∃ E, pipesE l = E := ⟨_, rfl⟩
    rw [hE] at C1 C2 C3 hlee
    clear hE
    generalize fewOk l = K at *
    generalize fewL l = L at *
    generalize leeV l = V at *
    have hKK : (K != K) = false := by cases K <;> rfl
    go_enter Tryd.func10, Tryd.ntmps10
    go_wp2_with fail
    refine (HM.out w).mono ?_
    rintro e w' ⟨rfl, rfl⟩
    go_wp2_with fail
    refine (C1.out w HR.out).mono ?_
    rintro e w1 ⟨A1, c1, rfl, hc1, hr1, hb⟩
    have B1 := Lib.hid hb
    have P1 := Lib.hid hr1
    have S1 := Lib.hid ((HR.out.below hb (Nat.le_refl _)).more hb.size)
    clear hb hr1
    go_wp2_with fail
    refine (C2.out w1 S1.out).mono ?_
    rintro e w2 ⟨A2, c2, rfl, hc2, hr2, hb⟩
    have B2 := Lib.hid (B1.out.trans (hb.mono B1.out.size))
    have P2 := Lib.hid hr2
    have P12 := Lib.hid ((P1.out.below hb (Nat.le_refl _)).more hb.size)
    have S2 := Lib.hid ((S1.out.below hb (Nat.le_refl _)).more hb.size)
    clear hb hr2
    go_wp2_with fail
    refine (SameInts_same A1 A2 c1 c2 L _ _ w2 rfl rfl P12.out P2.out (by omega)).mono ?_
    rintro e w' ⟨rfl, m, rfl⟩
    have B3 := Lib.hid (below_drewN B2.out m)
    have S3 := Lib.hid (S2.out.below (below_drewN (Below.refl w2.heap.size w2) m) (Nat.le_refl _))
    go_wp2_with fail
    refine (C3.out (w2.drewN m) S3.out).mono ?_
    rintro e w4 ⟨rfl, hb⟩
    have B4 := Lib.hid (B3.out.trans (hb.mono B3.out.size))
    clear hb
    by_cases h0 : E = 0
    · have hl0 := hlee h0
      subst h0
      have hkl : (K == (V == 0)) = true := by rw [hl0]; cases K <;> rfl
      clear hlee hl0
      go_wp2_with fail
      refine (known_ok w4 (HT.out.below' B4.out)).mono ?_
      rintro e w8 ⟨rfl, hb⟩
      go_wp2_with fail
      go_ret
      exact ⟨rfl, B4.out.trans (hb.mono B4.out.size)⟩
    · have h1 : (E == 0) = false := by simpa using h0
      have h2 : (E != 0) = true := by simpa using h0
      clear hlee
      go_wp2_with fail
      refine (known_ok w4 (HT.out.below' B4.out)).mono ?_
      rintro e w8 ⟨rfl, hb⟩
      go_wp2_with fail
      go_ret
      exact ⟨rfl, B4.out.trans (hb.mono B4.out.size)⟩
  · have HM := Lib.hid (fun w => Many_any A c l.length true w hn hlong)
    clear hlong
    go_enter Tryd.func10, Tryd.ntmps10
    go_wp2_with fail
    refine (HM.out w).mono ?_
    rintro e w' ⟨rfl, rfl⟩
    go_wp2_with fail
    refine (known_ok w HT.out).mono ?_
    rintro e w1 ⟨rfl, hb⟩
    have B1 := Lib.hid hb
    clear hb
    go_wp2_with fail
    go_ret
    exact ⟨rfl, B1.out⟩
end Go.Proofs.YtnnlbllkckakbaaDoor

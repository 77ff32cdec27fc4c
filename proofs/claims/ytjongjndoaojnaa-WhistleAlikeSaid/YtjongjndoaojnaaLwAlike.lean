/-
  WhistleAlike: the walk. Condition: the code can be read.
-/
import Derived.Test.YtjongjndoaojnaaAl2
import Derived.Test.YtjongjndoaojnaaEn3
namespace Go.Proofs.Ytjongjndoaojnaa
open Go.RowKit
set_option linter.unusedVariables false

set_option maxRecDepth 8000 in
set_option maxHeartbeats 4000000 in
theorem Alike_walk (A : Option Addr) (c : Nat) (C : List ByteArray) (w : World) (hr : Rd w w.heap.size A (txts C)) (hs : Sz C) (hl : C.length ≤ c) (hc : c ≤ maxLen) :
    Calls Try.prog 8 #[.slice A C.length c] w fun e w' => e = .returned (.bool true) ∧ Below w.heap.size w w' := by
  have hc' : c ≤ 9223372036854775807 := by unfold maxLen at hc; omega
  have HR := Lib.hid hr
  have HS := Lib.hid hs
  have HL := Lib.hid (Long_any A c C w hr (by omega))
  have HKN := Lib.hid known_any
  clear hr hs
  cases hlo : longB C
  · rw [hlo] at HL
    clear hlo
    go_enter Try.func8, Try.ntmps8
    go_wp2_with fail
    refine (HL.out).mono ?_
    rintro e w' ⟨rfl, rfl⟩
    go_wp2_with fail
    refine (Alike_any A c C w HR.out HS.out hl hc').mono ?_
    rintro e w1 ⟨A1, c1, la, A2, c2, l2, rfl, hr1, hr2, hl1, hl2, hy, hn, hb⟩
    have B1 := Lib.hid hb
    have R1 := Lib.hid (HR.out.go (B0 := 0) hb)
    have P1 := Lib.hid hr1
    have Q1 := Lib.hid hr2
    have HY := Lib.hid hy
    have HN := Lib.hid hn
    clear hb hr1 hr2 hy hn
    go_wp2_with fail
    refine (rIsSafe_any A c C w1 R1.out HS.out (Nat.le_trans hl hc')).mono ?_
    rintro e w2 ⟨rfl, hb⟩
    have B2 := Lib.hid (B1.out.trans (hb.mono B1.out.size))
    have R2 := Lib.hid (R1.out.go (B0 := 0) hb)
    have P2 := Lib.hid (P1.out.go (B0 := 0) hb)
    have Q2 := Lib.hid (Q1.out.go (B0 := 0) hb)
    clear hb
    have HFD := Lib.hid (show (decide (vE C = 0) && !sfB C) = ((vE C == 0) && !sfB C) by
      congr 1)
    have HCA := Lib.hid (rCheckAlike_any A A1 A2 c c1 c2 C la l2 w2 R2.out HS.out (Nat.le_trans hl hc') P2.out Q2.out (by omega) (by omega))
    cases hfd : (decide (vE C = 0) && !sfB C)
    · obtain ⟨rfl, rfl⟩ := HN.out hfd
      have hf2 := HFD.out
      rw [hfd] at hf2
      generalize sfB C = sf at *
      generalize vE C = v at *
      have e0 : (v != v) = false := by simp
      clear HFD HY HN hfd HCA
      cases hz : (v == 0)
      · clear hf2
        go_wp2_with fail
        refine (HKN.out w2).mono ?_
        rintro e w8 ⟨rfl, hb⟩
        have B8 := Lib.hid (B2.out.trans (hb.mono B2.out.size))
        clear hb
        go_wp2_with fail
        go_ret
        exact ⟨rfl, B8.out⟩
      · rw [hz] at hf2
        have hsf : sf = true := by simpa using hf2.symm
        subst hsf
        clear hf2
        go_wp2_with fail
        refine (HKN.out w2).mono ?_
        rintro e w8 ⟨rfl, hb⟩
        have B8 := Lib.hid (B2.out.trans (hb.mono B2.out.size))
        clear hb
        go_wp2_with fail
        go_ret
        exact ⟨rfl, B8.out⟩
    · have hae := HY.out hfd
      have hf2 := HFD.out
      rw [hfd] at hf2
      rw [hae] at HCA
      generalize sfB C = sf at *
      generalize vE C = v at *
      have e0 : (v != v) = false := by simp
      clear HFD HY HN hfd hae
      have hz : (v == 0) = true := by
        cases h : (v == 0)
        · rw [h] at hf2; cases hf2
        · rfl
      have hsf : sf = false := by
        rw [hz] at hf2
        simpa using hf2.symm
      subst hsf
      clear hf2
      go_wp2_with fail
      refine HCA.out.mono ?_
      rintro e w3 ⟨rfl, hb⟩
      have B3 := Lib.hid (B2.out.trans (hb.mono B2.out.size))
      clear hb
      go_wp2_with fail
      refine (HKN.out w3).mono ?_
      rintro e w8 ⟨rfl, hb⟩
      have B8 := Lib.hid (B3.out.trans (hb.mono B3.out.size))
      clear hb
      go_wp2_with fail
      go_ret
      exact ⟨rfl, B8.out⟩
  · rw [hlo] at HL
    clear hlo
    go_enter Try.func8, Try.ntmps8
    go_wp2_with fail
    refine (HL.out).mono ?_
    rintro e w' ⟨rfl, rfl⟩
    go_wp2_with fail
    refine (HKN.out w).mono ?_
    rintro e w8 ⟨rfl, hb⟩
    go_wp2_with fail
    go_ret
    exact ⟨rfl, hb⟩
end Go.Proofs.Ytjongjndoaojnaa

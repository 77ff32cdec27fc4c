/-
  Which histories are valid: the walk of ValidateHistories of the reference. Condition: the list can be read.
-/
import Derived.Test.YtegehfcnclpdeaaDoorHs3
namespace Go.Proofs.YtegehfcnclpdeaaDoor
open Go.RowKit
set_option linter.unusedVariables false

theorem bits_bad {s : ByteArray} {i : Nat} (h : i < s.size) (h1 : (s[i]'h).toNat ≠ 48) (h2 : (s[i]'h).toNat ≠ 49) : bitsB s = false := by
  unfold bitsB
  rw [List.all_eq_false]
  refine ⟨s[i]'h, List.mem_of_getElem? (bl_get s i h), ?_⟩
  unfold isBit
  rw [decide_eq_false (fun e => h1 (by rw [e]; rfl)), decide_eq_false (fun e => h2 (by rw [e]; rfl))]
  decide
theorem bits_next {s : ByteArray} {i : Nat} (h : i < s.size) (ha : ((bl s).take i).all isBit = true) (h1 : (s[i]'h).toNat = 48 ∨ (s[i]'h).toNat = 49) : ((bl s).take (i + 1)).all isBit = true := by
  rw [List.take_add_one, bl_get s i h, List.all_append, ha]
  have : isBit (s[i]'h) = true := by
    unfold isBit
    rcases h1 with h1 | h1
    · rw [decide_eq_true (UInt8.toNat_inj.1 (show (s[i]'h).toNat = (48 : UInt8).toNat from h1))]; rfl
    · rw [decide_eq_true (UInt8.toNat_inj.1 (show (s[i]'h).toNat = (49 : UInt8).toNat from h1)), Bool.or_true]
  simp [this]
theorem bits_end {s : ByteArray} {i : Nat} (h : s.size ≤ i) (ha : ((bl s).take i).all isBit = true) : bitsB s = true := by
  rw [List.take_of_length_le (by rw [bl_len]; exact h)] at ha
  exact ha
set_option maxRecDepth 8000 in
set_option maxHeartbeats 4000000 in
theorem rValidateHistories_any (A : Option Addr) (cp : Nat) (C : List ByteArray) (hs : Sz C) (hl : C.length ≤ 9223372036854775807) (w : World) (hr : Rd w w.heap.size A (txts C)) :
    Calls Tryd.prog 17 #[.slice A C.length cp] w fun e w' => e = .returned (.int .i64 (vhE C)) ∧ ∃ m, w' = w.drewN m := by
  have HR := Lib.hid hr
  have HSz := Lib.hid hs
  clear hr hs
  have h8 := len60 C.length
  by_cases hl8 : 60 < C.length
  · have HE := Lib.hid (show vhE C = 3 from if_pos hl8)
    rw [decide_eq_true hl8] at h8
    have h8' : decide (60 < C.length) = true := decide_eq_true hl8
    clear hl8
    go_enter Tryd.func17, Tryd.ntmps17
    go_wp2_with fail
    go_ret
    exact ⟨by rw [HE.out]; rfl, 0, rfl⟩
  · have HE := Lib.hid (show vhE C = vhF (D0 C) C from if_neg hl8)
    rw [decide_eq_false hl8] at h8
    have h8' : decide (60 < C.length) = false := decide_eq_false hl8
    have h8l : C.length ≤ 60 := by omega
    clear hl8
    go_enter Tryd.func17, Tryd.ntmps17
    go_wp2_with fail
    clear h8 h8'
    go_loopw [3, 4] (fun i _ wr => ∃ k m : Nat, k ≤ C.length ∧ i = .int .i64 k ∧ okH (D0 C) (C.take k) ∧ wr = w.drewN m) (fun i _ _ => C.length - (intOf i).toNat)
    case atStart => exact ⟨0, 0, by omega, rfl, fun q hq => by simp at hq, rfl⟩
    case round =>
      obtain ⟨k, md, hk, rfl, ho, hw⟩ := hrel
      have HO := Lib.hid ho
      have HWR := Lib.hid hw
      by_cases hlt : k < C.length
      · have hRw : Rd wr w.heap.size A (txts C) := by rw [hw]; exact HR.out.drewN md
        obtain ⟨b, o, s, hA, hbb, hq, c0⟩ := hRw.txt k hlt
        obtain ⟨b2, o2, z, hA2, _, hz, c1⟩ := hRw.txt 0 (by omega)
        rw [hA] at hA2
        injection hA2 with hA2
        injection hA2 with q1 q2
        subst q1 q2
        have HA := Lib.hid hA
        subst hA
        have hD := D0_at hz.out
        have c1' : wr.cell? ⟨b, o, none⟩ = some (.string z) := c1
        have HHit := Lib.hid (fun h => vhF_hit HO.out hq.out h)
        have HNx := Lib.hid (fun h => okH_next HO.out hq.out h)
        have hbd : birdE (D0 C) s = if 8 < s.size then 3 else if s.size ≠ z.size ∨ bitsB s = false then 1 else if oneB s = false then 8 else 0 := by rw [hD]; rfl
        have hsz := HSz.out s (List.mem_of_getElem? hq.out)
        have hszz := HSz.out z (List.mem_of_getElem? hz.out)
        have HC := Lib.hid (fun w => caught_any s 0 s.size (Nat.le_refl _) hsz (by omega) w)
        have b0 : (0 : Int) ≤ (k : Int) := by omega
        have b1 : (k : Int) < (C.length : Int) := by omega
        have b2 : (0 : Int) < (C.length : Int) := by omega
        have b3 : 0 < C.length := by omega
        clear ho hw c1 hq hz hbb hD hRw
        by_cases h8s : 8 < s.size
        · have e1 : decide ((8 : Int) < (s.size : Int)) = true := by simp; omega
          have e1' : decide (8 < s.size) = true := decide_eq_true h8s
          have hbv := hbd.trans (if_pos h8s)
          have HV := Lib.hid (show vhF (D0 C) C = 3 from (HHit.out (by rw [hbv]; decide)).trans hbv)
          clear h8s hbd hbv hlt
          go_wp2_with fail
          go_ret
          exact ⟨by rw [HE.out, HV.out]; rfl, md, HWR.out⟩
        · have e1 : decide ((8 : Int) < (s.size : Int)) = false := by simp; omega
          have e1' : decide (8 < s.size) = false := decide_eq_false h8s
          have hs8 : s.size ≤ 8 := by omega
          have hbd := hbd.trans (if_neg h8s)
          by_cases hsd : s.size = z.size
          · have e2 : (((s.size : Nat) : Int) != ((z.size : Nat) : Int)) = false := by rw [hsd]; simp
            have e2' : (s.size != z.size) = false := by rw [hsd]; simp
            have HBD := Lib.hid hbd
            have HSD := Lib.hid hsd
            clear h8s hbd hlt hsd
            go_wp2_with fail
            go_quiet (fail)
            go_wp2_with fail
            clear e1 e1' e2 e2'
            obtain ⟨wo, hwo⟩ : ∃ wo : World, wo = wr.drewN nq := ⟨_, rfl⟩
            have HWO := Lib.hid (show wo = w.drewN (md + nq) by rw [hwo, HWR.out]; exact World.drewN_drewN _ _ _)
            have k0 : wo.cell? ⟨b, o + k, none⟩ = some (.string s) := by rw [hwo]; exact c0
            rw [← hwo]
            clear hwo c0 c1'
            go_loop [4] (fun i => ∃ j : Nat, j ≤ s.size ∧ i = .int .i64 j ∧ ((bl s).take j).all isBit = true) (fun i => s.size - (intOf i).toNat)
            case atStart => exact ⟨0, by omega, rfl, by simp⟩
            case round =>
              obtain ⟨j, hj, rfl, hall⟩ := hrel
              have HAL := Lib.hid hall
              clear hall
              by_cases hjs : j < s.size
              · have d0 : (0 : Int) ≤ (j : Int) := by omega
                have d1 : (j : Int) < (s.size : Int) := by omega
                have hbad := Lib.hid (fun h1 h2 => bits_bad hjs h1 h2)
                have hnx := Lib.hid (fun h => bits_next hjs HAL.out h)
                generalize hcc : (s[j]'hjs).toNat = cc at *
                by_cases h48 : cc = 48
                · have f1 : ((cc : Int) != 48) = false := by simp; omega
                  have f1' : (cc != 48) = false := by simpa using h48
                  have HN := Lib.hid (hnx.out (.inl h48))
                  clear h48
                  go_wp2_with fail
                  go_round
                  case rel => exact ⟨j + 1, by omega, by go_num, HN.out⟩
                  case measure => simp [intOf]; omega
                · have f1 : ((cc : Int) != 48) = true := by simp; omega
                  have f1' : (cc != 48) = true := by simpa using h48
                  by_cases h49 : cc = 49
                  · have f2 : ((cc : Int) != 49) = false := by simp; omega
                    have f2' : (cc != 49) = false := by simpa using h49
                    have HN := Lib.hid (hnx.out (.inr h49))
                    clear h48 h49
                    go_wp2_with fail
                    go_round
                    case rel => exact ⟨j + 1, by omega, by go_num, HN.out⟩
                    case measure => simp [intOf]; omega
                  · have f2 : ((cc : Int) != 49) = true := by simp; omega
                    have f2' : (cc != 49) = true := by simpa using h49
                    have hbv := HBD.out.trans (if_pos (.inr (hbad.out h48 h49)))
                    have HV := Lib.hid (show vhF (D0 C) C = 1 from (HHit.out (by rw [hbv]; decide)).trans hbv)
                    clear h48 h49 hbv
                    go_wp2_with fail
                    go_ret
                    exact ⟨by rw [HE.out, HV.out]; rfl, _, HWO.out⟩
              · have hbt := bits_end (show s.size ≤ j by omega) HAL.out
                cases hoe : oneB s
                · rw [show inB s 0 s.size = false from hoe] at HC
                  have hbv := (HBD.out.trans (if_neg (by rw [hbt]; simp [HSD.out]))).trans (if_pos hoe)
                  have HV := Lib.hid (show vhF (D0 C) C = 8 from (HHit.out (by rw [hbv]; decide)).trans hbv)
                  have e3 : decide ((j : Int) < (s.size : Int)) = false := by simp; omega
                  have e3' : decide (j < s.size) = false := by simp; omega
                  clear hbv hbt hoe hjs
                  go_wp2_with fail
                  go_quiet ((go_at_call 20; exact qs0 (HC.out _)))
                  go_wp2_with fail
                  go_ret
                  exact ⟨by rw [HE.out, HV.out]; rfl, _, by rw [HWO.out]; exact World.drewN_drewN _ _ _⟩
                · rw [show inB s 0 s.size = true from hoe] at HC
                  have HV := Lib.hid (HNx.out ((HBD.out.trans (if_neg (by rw [hbt]; simp [HSD.out]))).trans (if_neg (by rw [hoe]; simp))))
                  have e3 : decide ((j : Int) < (s.size : Int)) = false := by simp; omega
                  have e3' : decide (j < s.size) = false := by simp; omega
                  clear hbt hoe hjs
                  go_wp2_with fail
                  go_quiet ((go_at_call 20; exact qs0 (HC.out _)))
                  go_wp2_with fail
                  go_roundw
                  case rel => exact ⟨k + 1, _, by omega, by go_num, HV.out, by rw [HWO.out]; exact World.drewN_drewN _ _ _⟩
                  case measure => simp [intOf]; omega
          · have e2 : (((s.size : Nat) : Int) != ((z.size : Nat) : Int)) = true := by simp; omega
            have e2' : (s.size != z.size) = true := by simpa using hsd
            have hbv := hbd.trans (if_pos (.inl hsd))
            have HV := Lib.hid (show vhF (D0 C) C = 1 from (HHit.out (by rw [hbv]; decide)).trans hbv)
            clear h8s hbd hbv hlt hsd
            go_wp2_with fail
            go_quiet (fail)
            go_wp2_with fail
            go_ret
            exact ⟨by rw [HE.out, HV.out]; rfl, _, by rw [HWR.out]; exact World.drewN_drewN _ _ _⟩
      · have hkL : k = C.length := by omega
        have HV := Lib.hid (show vhF (D0 C) C = 0 from vhF_ok (by have := HO.out; rwa [hkL, List.take_length] at this))
        subst hkL
        clear ho hw hlt
        go_wp2_with fail
        go_ret
        exact ⟨by rw [HE.out, HV.out]; rfl, md, HWR.out⟩
end Go.Proofs.YtegehfcnclpdeaaDoor

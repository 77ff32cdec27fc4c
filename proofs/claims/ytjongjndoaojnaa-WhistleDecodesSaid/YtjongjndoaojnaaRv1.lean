/-
  Which codes are valid: the walk of Validate of the reference. Condition: the code can be read.
-/
import Derived.Test.YtjongjndoaojnaaKw1
namespace Go.Proofs.Ytjongjndoaojnaa
open Go.RowKit
set_option linter.unusedVariables false

theorem notin_of {C : List ByteArray} {k : Nat} {s : ByteArray} (h : ∀ (j : Nat) e, j < k → C[j]? = some e → ¬ e = s) : inB s (C.take k) = false := by
  unfold inB
  rw [List.any_eq_false]
  intro x hx
  obtain ⟨j, hj⟩ := List.getElem?_of_mem hx
  rw [List.getElem?_take] at hj
  split at hj
  · rename_i hjk
    have := h j x hjk hj
    simpa using this
  · cases hj
theorem in_of {C : List ByteArray} {k j : Nat} {s : ByteArray} (h : C[j]? = some s) (hj : j < k) : inB s (C.take k) = true := by
  rw [inB_iff]
  refine List.mem_of_getElem? (i := j) ?_
  rw [List.getElem?_take, if_pos hj]
  exact h
set_option maxRecDepth 4000 in
set_option maxHeartbeats 4000000 in
theorem rValidate_any (A : Option Addr) (c : Nat) (C : List ByteArray) (w : World) (hr : Rd w w.heap.size A (txts C)) (hs : Sz C) (hl : C.length ≤ 9223372036854775807) :
    Calls Try.prog 21 #[.slice A C.length c] w fun e w' => e = .returned (.int .i64 (vE C)) ∧ ∃ m, w' = w.drewN m := by
  have HR := Lib.hid hr
  have HS := Lib.hid hs
  clear hr hs
  by_cases h0 : C.length = 0
  · have e1 : decide (((C.length : Nat) : Int) < 1) = true := by rw [h0]; rfl
    have e2 : decide (C.length < 1) = true := by rw [h0]; rfl
    have HE := Lib.hid (show vE C = 3 by unfold vE; rw [if_pos (by simp [h0])])
    clear h0
    go_enter Try.func21, Try.ntmps21
    go_wp2_with fail
    go_ret
    exact ⟨by rw [HE.out]; rfl, 0, rfl⟩
  have e1 : decide (((C.length : Nat) : Int) < 1) = false := by simp; omega
  have e1' : decide (C.length < 1) = false := decide_eq_false (by omega)
  by_cases h12 : 12 < C.length
  · have e2 : decide ((12 : Int) < (C.length : Int)) = true := by simp; omega
    have e3 : decide (12 < C.length) = true := by simpa using h12
    have HE := Lib.hid (show vE C = 3 by unfold vE; rw [if_pos (by simp only [Bool.or_eq_true, decide_eq_true_eq]; omega)])
    clear h0
    go_enter Try.func21, Try.ntmps21
    go_wp2_with fail
    go_ret
    exact ⟨by rw [HE.out]; rfl, 0, rfl⟩
  have e2 : decide ((12 : Int) < (C.length : Int)) = false := by simp; omega
  have e3 : decide (12 < C.length) = false := by simpa using h12
  have HE := Lib.hid (show vE C = vGo [] C by unfold vE; rw [if_neg (by simp only [Bool.or_eq_true, decide_eq_true_eq]; omega)])
  have h12' : C.length ≤ 12 := by omega
  clear h0 h12
  go_enter Try.func21, Try.ntmps21
  go_wp2_with fail
  clear e1 e1' e2 e3
  go_loopw [3] (fun i wr => ∃ k : Nat, k ≤ C.length ∧ i = .int .i64 k ∧ vGo (C.take k) (C.drop k) = vGo [] C ∧ ∃ m, wr = w.drewN m) (fun i _ => C.length - (intOf i).toNat)
  case atStart => exact ⟨0, by omega, rfl, rfl, 0, rfl⟩
  case round =>
    obtain ⟨k, hk, rfl, hv, m, rfl⟩ := hrel
    have V1 := Lib.hid (HE.out.trans hv.symm)
    clear hv
    by_cases hlt : k < C.length
    · obtain ⟨b, o, s, hA0, hd, hc0⟩ := HR.out.txt k hlt
      have HA0 := Lib.hid hA0
      have HD := Lib.hid hd.out
      have HV := Lib.hid (vGo_at hd.out)
      have hsz := HS.out.at_ hd.out
      have HN := Lib.hid (fun w => isNotes_any s w hsz)
      subst hA0
      by_cases h1 : s.size < 1
      · have HG := Lib.hid (show sgB s = false by unfold sgB; rw [decide_eq_false (show ¬ 1 ≤ s.size by omega)]; rfl)
        have HZ := Lib.hid (show vE C = 1 by rw [V1.out, HV.out, if_pos HG.out])
        have e1 : decide ((s.size : Int) < 1) = true := by simp; omega
        have e2 : decide (s.size < 1) = true := by simpa using h1
        clear h1
        go_wp2_with fail
        go_ret
        exact ⟨by rw [HZ.out]; rfl, _, rfl⟩
      · have e1 : decide ((s.size : Int) < 1) = false := by simp; omega
        have e2 : decide (s.size < 1) = false := by simpa using h1
        by_cases h2 : 12 < s.size
        · have HG := Lib.hid (show sgB s = false by unfold sgB; rw [decide_eq_false (show ¬ s.size ≤ 12 by omega), Bool.and_false]; rfl)
          have HZ := Lib.hid (show vE C = 1 by rw [V1.out, HV.out, if_pos HG.out])
          have e3 : decide ((12 : Int) < (s.size : Int)) = true := by simp; omega
          have e4 : decide (12 < s.size) = true := by simpa using h2
          clear h1 h2
          go_wp2_with fail
          go_ret
          exact ⟨by rw [HZ.out]; rfl, _, rfl⟩
        · have e3 : decide ((12 : Int) < (s.size : Int)) = false := by simp; omega
          have e4 : decide (12 < s.size) = false := by simpa using h2
          have HSG := Lib.hid (show sgB s = notesB s by unfold sgB; rw [decide_eq_true (show 1 ≤ s.size by omega), decide_eq_true (show s.size ≤ 12 by omega)]; rfl)
          clear h1 h2
          cases hn : notesB s
          · rw [hn] at HN HSG
            have HZ := Lib.hid (show vE C = 1 by rw [V1.out, HV.out, if_pos HSG.out])
            clear hn
            go_wp2_with (go_at_call 58; refine (HN.out _).mono ?_; rintro e w' ⟨rfl, rfl⟩)
            go_ret
            exact ⟨by rw [HZ.out]; rfl, _, rfl⟩
          · rw [hn] at HN HSG
            clear hn
            go_wp2_with (go_at_call 58; refine (HN.out _).mono ?_; rintro e w' ⟨rfl, rfl⟩)
            clear e1 e2 e3 e4
            go_loopw [4] (fun i wr => ∃ j : Nat, j ≤ k ∧ i = .int .i64 j ∧ (∀ (i : Nat) e, i < j → C[i]? = some e → ¬ e = s) ∧ ∃ m, wr = w.drewN m) (fun i _ => k - (intOf i).toNat)
            case atStart => exact ⟨0, by omega, rfl, fun i e hi => by omega, _, rfl⟩
            case round =>
              obtain ⟨j, hj, rfl, hall, m2, rfl⟩ := hrel
              have HA := Lib.hid hall
              clear hall
              by_cases hjk : j < k
              · obtain ⟨b2, o2, d, hb2, hd2, hc2⟩ := HR.out.txt j (by omega)
                cases hb2
                have b0 : (0 : Int) ≤ (j : Int) := by omega
                have b1 : (j : Int) < (C.length : Int) := by omega
                have b2' : (0 : Int) ≤ (k : Int) := by omega
                have b3 : (k : Int) < (C.length : Int) := by omega
                have b4 : decide ((j : Int) < (k : Int)) = true := by simp; omega
                have b5 : decide (j < k) = true := by simpa using hjk
                by_cases he : d = s
                · have e1 : (d.toList == s.toList) = true := by rw [bl_eqb]; exact decide_eq_true he
                  have HZ := Lib.hid (show vE C = 5 by
                    rw [V1.out, HV.out, if_neg (by rw [HSG.out]; simp), if_pos (in_of (by rw [← he]; exact hd2.out) hjk)])
                  clear he
                  go_wp2_with fail
                  go_quiet (fail)
                  go_wp2_with fail
                  go_ret
                  exact ⟨by rw [HZ.out]; rfl, _, World.drewN_drewN _ _ _⟩
                · have e1 : (d.toList == s.toList) = false := by rw [bl_eqb]; exact decide_eq_false he
                  have HX := Lib.hid (neb_next hd2.out he HA.out)
                  clear he
                  go_wp2_with fail
                  go_quiet (fail)
                  go_wp2_with fail
                  go_roundw
                  case rel => exact ⟨j + 1, by omega, by go_num, HX.out, _, rfl⟩
                  case measure => simp [intOf]; omega
              · have hjk' : j = k := by omega
                have b4 : decide ((j : Int) < (k : Int)) = false := by simp; omega
                have b5 : decide (j < k) = false := by simpa using hjk
                have HX := Lib.hid (show vGo (C.take (k + 1)) (C.drop (k + 1)) = vGo [] C by
                  have h1 := V1.out
                  rw [HV.out, if_neg (by rw [HSG.out]; simp), if_neg (by rw [notin_of (by rw [← hjk']; exact HA.out)]; simp)] at h1
                  rw [← h1, HE.out])
                clear hjk' hjk
                go_wp2_with fail
                go_roundw
                case rel => exact ⟨k + 1, by omega, by go_num, HX.out, _, rfl⟩
                case measure => simp [intOf]; omega
    · have hks : k = C.length := by omega
      subst hks
      have HZ := Lib.hid (show vE C = 0 by rw [V1.out, vGo_end])
      go_wp2_with fail
      go_ret
      exact ⟨by rw [HZ.out]; rfl, _, rfl⟩
end Go.Proofs.Ytjongjndoaojnaa

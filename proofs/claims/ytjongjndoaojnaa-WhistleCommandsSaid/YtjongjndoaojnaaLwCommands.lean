/-
  WhistleCommands: the walk. Condition: the code and the text can be read.
-/
import Derived.Test.YtjongjndoaojnaaCm2
import Derived.Test.YtjongjndoaojnaaHd1
import Derived.Test.YtjongjndoaojnaaPf1
import Derived.Test.YtjongjndoaojnaaKw1
namespace Go.Proofs.Ytjongjndoaojnaa
open Go.RowKit
set_option linter.unusedVariables false

def flK (P : List ByteArray) (k : Nat) : List UInt8 := ((P.take k).map bl).flatten
theorem flK_next {P : List ByteArray} {k : Nat} {s : ByteArray} (h : P[k]? = some s) : ofL (flK P k) ++ s = ofL (flK P (k + 1)) := by
  apply bl_inj
  unfold flK
  rw [List.take_add_one, h, bl_ofL]
  simp only [Option.toList_some, List.map_append, List.map_cons, List.map_nil, List.flatten_append, List.flatten_cons, List.flatten_nil, List.append_nil]
  unfold bl
  rw [ByteArray.data_append]
  simp [ofL]
theorem flK_le (P : List ByteArray) (k : Nat) : (flK P k).length ≤ (flK P P.length).length := by
  unfold flK
  rw [List.take_length]
  conv => rhs; rw [← List.take_append_drop k P]
  rw [List.map_append, List.flatten_append, List.length_append]
  omega
theorem cm_text {C : List ByteArray} {t : ByteArray} (hz : txE C t = 0) : flK (cmL C t) (cmL C t).length ++ bl (cmR C t) = bl t := by
  unfold flK cmL cmR
  rw [if_pos hz, if_pos hz, List.take_length, bl_ofL]
  exact cmd_flat C t.size (bl t)
set_option maxRecDepth 8000 in
set_option maxHeartbeats 4000000 in
theorem Commands_walk (A : Option Addr) (c : Nat) (C : List ByteArray) (t : ByteArray) (w : World) (hr : Rd w w.heap.size A (txts C)) (hs : Sz C) (hl : C.length ≤ c) (hc : c ≤ maxLen) (ht : t.size ≤ maxLen) :
    Calls Try.prog 6 #[.slice A C.length c, .string t] w fun e w' => e = .returned (.bool true) ∧ Below w.heap.size w w' := by
  have hc' : c ≤ 9223372036854775807 := by unfold maxLen at hc; omega
  have ht' : t.size ≤ 9223372036854775807 := by unfold maxLen at ht; omega
  have HR := Lib.hid hr
  have HS := Lib.hid hs
  have HL := Lib.hid (Long_any A c C w hr (by omega))
  have HKN := Lib.hid known_any
  clear hr hs
  cases hlo : longB C
  · rw [hlo] at HL
    clear hlo
    by_cases h200 : 200 < t.size
    · have e1 : decide ((200 : Int) < (t.size : Int)) = true := by simp; omega
      have e2 : decide (200 < t.size) = true := by simpa using h200
      clear h200
      go_enter Try.func6, Try.ntmps6
      go_wp2_with fail
      refine (HL.out).mono ?_
      rintro e w' ⟨rfl, rfl⟩
      go_wp2_with fail
      refine (HKN.out _).mono ?_
      rintro e w8 ⟨rfl, hb⟩
      go_wp2_with fail
      go_ret
      exact ⟨rfl, hb⟩
    · have e1 : decide ((200 : Int) < (t.size : Int)) = false := by simp; omega
      have e2 : decide (200 < t.size) = false := by simpa using h200
      have HT := Lib.hid (fun h => cm_text (C := C) (t := t) h)
      have HPW := Lib.hid (show txE C t = 0 → prB C = true → (hdN C t = 1 ∧ cmR C t = ⟨#[]⟩) ∨ (hdN C t = 0 ∧ (cmR C t).toList.isEmpty = false) from fun hz hp => by
        obtain ⟨hv, hpf⟩ := prB_pf hp
        have hw := ways_cmd (vE_ok hv) hpf t.size (bl t) (by rw [bl_len]; exact Nat.le_refl _)
        unfold hdN cmR
        rw [if_pos hz, if_pos hz, hw]
        by_cases hn : (cmd C t.size (bl t)).2 = []
        · rw [if_pos hn, hn]
          exact .inl ⟨rfl, rfl⟩
        · rw [if_neg hn, Lib.toList_data]
          refine .inr ⟨rfl, List.isEmpty_eq_false_iff.2 ?_⟩
          show bl (ofL _) ≠ []
          rw [bl_ofL]
          exact hn)
      have HIP := Lib.hid (fun w h => IsPrefix_any A c C w h HS.out hl hc')
      have HHD := Lib.hid (fun w h => Heard_any A c C t w h HS.out hl hc' ht')
      have HVZ := Lib.hid (fun h => (txE_zero (C := C) (t := t) h).1)
      clear h200
      go_enter Try.func6, Try.ntmps6
      go_wp2_with fail
      refine (HL.out).mono ?_
      rintro e w' ⟨rfl, rfl⟩
      go_wp2_with fail
      refine (Commands_any A c C t w HR.out HS.out hl hc' ht').mono ?_
      rintro e w1 ⟨A1, c1, rfl, hr1, hl1, hb⟩
      have B1 := Lib.hid hb
      have R1 := Lib.hid (HR.out.go (B0 := 0) hb)
      have P1 := Lib.hid hr1
      clear hb hr1
      go_wp2_with fail
      refine (rCommands_any A c C t w1 R1.out HS.out (Nat.le_trans hl hc') ht').mono ?_
      rintro e w2 ⟨A2, c2, rfl, hr2, hl2, hb⟩
      have B2 := Lib.hid (B1.out.trans (hb.mono B1.out.size))
      have R2 := Lib.hid (R1.out.go (B0 := 0) hb)
      have P2 := Lib.hid (P1.out.go (B0 := 0) hb)
      have Q2 := Lib.hid hr2
      clear hb hr2
      have HSA := Lib.hid (Same_self A1 A2 c1 c2 (cmL C t) w2 P2.out Q2.out (by omega))
      have HVE := Lib.hid (show txE C t = 0 → vE C = 0 from fun h => HVZ.out h)
      generalize cmL C t = P at *
      generalize cmR C t = r at *
      generalize hdN C t = hn at *
      generalize txE C t = te at *
      generalize prB C = pr at *
      have e3 : (te != te) = false := by simp
      have e4 : (r.toList == r.toList) = true := by simp
      go_wp2_with fail
      refine HSA.out.mono ?_
      rintro e w3 ⟨rfl, hb⟩
      have B3 := Lib.hid (B2.out.trans (hb.mono B2.out.size))
      have R3 := Lib.hid (R2.out.go (B0 := 0) hb)
      have P3 := Lib.hid (P2.out.go (B0 := 0) hb)
      clear hb
      by_cases hz : te = 0
      · have HTX := Lib.hid (HT.out hz)
        have HPP := Lib.hid (HPW.out hz)
        have HV0 := Lib.hid (HVE.out hz)
        have hflt : (flK P P.length).length ≤ 200 := by
          have h1 := congrArg List.length HTX.out
          rw [List.length_append, bl_len t] at h1
          have h2 := of_decide_eq_false e2
          omega
        have e5 : (te != 0) = false := by rw [hz]; rfl
        have e6 : (te == 0) = true := by rw [hz]; rfl
        clear hz
        go_wp2_with fail
        go_loop [11, 12] (fun v i => ∃ k : Nat, k ≤ P.length ∧ v = .string (ofL (flK P k)) ∧ i = .int .i64 k) (fun _ i => P.length - (intOf i).toNat)
        case atStart => exact ⟨0, by omega, rfl, rfl⟩
        case round =>
          obtain ⟨k, hk, rfl, rfl⟩ := hrel
          by_cases hlt : k < P.length
          · obtain ⟨b2, o2, s, hA2, hd, hc2⟩ := P3.out.txt k hlt
            have HA2 := Lib.hid hA2
            subst hA2
            have b0 : (0 : Int) ≤ (k : Int) := by omega
            have b1 : (k : Int) < (P.length : Int) := by omega
            have HX := Lib.hid (flK_next hd.out)
            have hsz : (ofL (flK P k)).size ≤ 200 := by
              rw [← bl_len, bl_ofL]
              have := flK_le P k
              omega
            have hss : s.size ≤ 200 := by
              have h1 := flK_le P (k + 1)
              have h2 := congrArg (fun x => (bl x).length) HX.out
              rw [bl_ofL, bl_len, ByteArray.size_append, ← bl_len (ofL (flK P k)), bl_ofL] at h2
              omega
            generalize ofL (flK P k) = x at *
            go_wp2_with fail
            go_round
            case rel => exact ⟨k + 1, by omega, by rw [← HX.out], by go_num⟩
            case measure => simp [intOf]; omega
          · have hks : k = P.length := by omega
            subst hks
            have hbt : ((ofL (flK P P.length) ++ r).toList == t.toList) = true := by
              rw [bl_eqb]
              refine decide_eq_true (bl_inj ?_)
              rw [← HTX.out]
              unfold bl
              rw [ByteArray.data_append]
              simp [ofL]
            have hsz : (ofL (flK P P.length)).size ≤ 200 := by rw [← bl_len, bl_ofL]; exact hflt
            have hrs : r.size ≤ 200 := by
              have h1 := congrArg List.length HTX.out
              rw [List.length_append, bl_len t, bl_len r] at h1
              have h2 := of_decide_eq_false e2
              omega
            generalize ofL (flK P P.length) = x at *
            go_wp2_with fail
            refine (HIP.out w3 R3.out).mono ?_
            rintro e w4 ⟨rfl, hb⟩
            rw [HV0.out]
            have B4 := Lib.hid (B3.out.trans (hb.mono B3.out.size))
            have R4 := Lib.hid (R3.out.go (B0 := 0) hb)
            clear hb
            go_wp2_with fail
            refine (HHD.out w4 R4.out).mono ?_
            rintro e w5 ⟨rfl, hb⟩
            have B5 := Lib.hid (B4.out.trans (hb.mono B4.out.size))
            clear hb
            have HKK := Lib.hid (HKN.out w5)
            cases hpr : pr
            · subst hpr
              go_wp2_with fail
              refine HKK.out.mono ?_
              rintro e w8 ⟨rfl, hb⟩
              have B8 := Lib.hid (B5.out.trans (hb.mono B5.out.size))
              clear hb
              go_wp2_with fail
              go_ret
              exact ⟨rfl, B8.out⟩
            · rcases HPP.out hpr with ⟨h1, h2⟩ | ⟨h1, h2⟩
              · subst hpr h1 h2
                go_wp2_with fail
                refine HKK.out.mono ?_
                rintro e w8 ⟨rfl, hb⟩
                have B8 := Lib.hid (B5.out.trans (hb.mono B5.out.size))
                clear hb
                go_wp2_with fail
                go_ret
                exact ⟨rfl, B8.out⟩
              · subst hpr h1
                go_wp2_with fail
                refine HKK.out.mono ?_
                rintro e w8 ⟨rfl, hb⟩
                have B8 := Lib.hid (B5.out.trans (hb.mono B5.out.size))
                clear hb
                go_wp2_with fail
                go_ret
                exact ⟨rfl, B8.out⟩
      · have e5 : (te != 0) = true := by simpa using hz
        clear hz
        go_wp2_with fail
        refine (HKN.out w3).mono ?_
        rintro e w8 ⟨rfl, hb⟩
        have B8 := Lib.hid (B3.out.trans (hb.mono B3.out.size))
        clear hb
        go_wp2_with fail
        go_ret
        exact ⟨rfl, B8.out⟩
  · rw [hlo] at HL
    clear hlo
    go_enter Try.func6, Try.ntmps6
    go_wp2_with fail
    refine (HL.out).mono ?_
    rintro e w' ⟨rfl, rfl⟩
    go_wp2_with fail
    refine (HKN.out w).mono ?_
    rintro e w8 ⟨rfl, hb⟩
    go_wp2_with fail
    go_ret
    exact ⟨rfl, hb⟩
end Go.Proofs.Ytjongjndoaojnaa

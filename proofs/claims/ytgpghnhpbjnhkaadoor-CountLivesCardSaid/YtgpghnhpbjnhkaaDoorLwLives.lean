/-
  CountLives: the walk. Condition: the list can be read.
-/
import Derived.Test.YtgpghnhpbjnhkaaDoorHse
namespace Go.Proofs.YtgpghnhpbjnhkaaDoor
open Go.RowKit
set_option linter.unusedVariables false

set_option maxRecDepth 8000 in
set_option maxHeartbeats 4000000 in
theorem Lives_walk (A : Option Addr) (cp : Nat) (C : List ByteArray) (w : World) (hr : Rd w w.heap.size A (txts C)) (hs : Sz C) (hlc : C.length ≤ cp) (hcm : cp ≤ maxLen) :
    Calls Tryd.prog 4 #[.slice A C.length cp] w fun e w' => e = .returned (.bool true) ∧ Below w.heap.size w w' := by
  have hl : C.length ≤ 9223372036854775807 := by unfold maxLen at hcm; omega
  have HM := Lib.hid (Many_any A cp C hs hl w hr)
  have H1 := Lib.hid (fun w h => Alive_any A cp C hs hl w h)
  have H2 := Lib.hid (fun w h => rAlive_any A cp C hs hl w h)
  have H3 := Lib.hid (fun w h => Lives_any A cp C hs hl w h)
  have H4 := Lib.hid (fun w h => rLives_any A cp C hs hl w h)
  have HK := Lib.hid (fun w => known_any w)
  have HR := Lib.hid hr
  obtain ⟨F, n, G, m, hF, hG, hsum, hn8, hm60, hF60, hG8⟩ := lives_rows (C := C)
  have hA2 := alive_same C
  unfold DayPost at H1 H2
  unfold LivPost at H3 H4
  rw [← hA2] at H2
  rw [hF] at H1 H2
  rw [hG] at H3 H4
  rw [rowZ_len] at H1 H2 H3 H4
  have HS := Lib.hid hsum
  have hb1 := Lib.hid (sm_le hF60)
  have hb2 := Lib.hid (sm_le hG8)
  clear hr hs hF hG hsum hA2 hF60 hG8 hlc hcm
  generalize C.length = len at *
  generalize vhE C = E at *
  go_enter Tryd.func4, Tryd.ntmps4
  go_wp2_with fail
  refine HM.out.mono ?_
  rintro e w0 ⟨⟨q, rfl⟩, rfl⟩
  cases q
  · go_wp2_with fail
    refine (H1.out w HR.out).mono ?_
    rintro e w1 ⟨A1, c1, rfl, r1, hb⟩
    have B1 := Lib.hid hb
    have R1 := Lib.hid r1
    clear r1 hb
    go_wp2_with fail
    refine (H2.out w1 (HR.out.upH B1.out)).mono ?_
    rintro e w2 ⟨A2, c2, rfl, r2, hb⟩
    have B2 := Lib.hid (B1.out.trans (hb.mono B1.out.size))
    have R12 := Lib.hid (R1.out.upH hb)
    have R22 := Lib.hid r2
    clear r2 hb
    go_wp2_with fail
    refine (H3.out w2 (HR.out.upH B2.out)).mono ?_
    rintro e w3 ⟨A3, c3, rfl, r3, hb⟩
    have B3 := Lib.hid (B2.out.trans (hb.mono B2.out.size))
    have R13 := Lib.hid (R12.out.upH hb)
    have R23 := Lib.hid (R22.out.upH hb)
    have R33 := Lib.hid r3
    clear r3 hb
    go_wp2_with fail
    refine (H4.out w3 (HR.out.upH B3.out)).mono ?_
    rintro e w4 ⟨A4, c4, rfl, r4, hb⟩
    have B4 := Lib.hid (B3.out.trans (hb.mono B3.out.size))
    have R14 := Lib.hid (R13.out.upH hb)
    have R24 := Lib.hid (R23.out.upH hb)
    have R34 := Lib.hid (R33.out.upH hb)
    have R44 := Lib.hid r4
    clear r4 hb
    have S1 := Lib.hid (fun w h1 h2 => SameInts_any A1 A2 c1 c2 (rowZ F n) (rowZ F n) w h1 h2 (by rw [rowZ_len]; omega) (by rw [rowZ_len]; omega))
    have S2 := Lib.hid (fun w h1 h2 => SameInts_any A3 A4 c3 c4 (rowZ G m) (rowZ G m) w h1 h2 (by rw [rowZ_len]; omega) (by rw [rowZ_len]; omega))
    rw [rowZ_len, decide_eq_true rfl] at S1 S2
    go_wp2_with fail
    refine (S1.out w4 R14.out R24.out).mono ?_
    rintro e w5 ⟨rfl, m5, h5⟩
    have hb5 := bdH (Below.refl w4.heap.size w4) m5
    rw [← h5] at hb5
    have R15 := Lib.hid (R14.out.upH hb5)
    have R35 := Lib.hid (R34.out.upH hb5)
    have R45 := Lib.hid (R44.out.upH hb5)
    have B5 := Lib.hid (B4.out.trans (hb5.mono B4.out.size))
    clear h5 hb5
    go_wp2_with fail
    refine (S2.out w5 R35.out R45.out).mono ?_
    rintro e w6 ⟨rfl, m6, h6⟩
    have hb6 := bdH (Below.refl w5.heap.size w5) m6
    rw [← h6] at hb6
    have R16 := Lib.hid (R15.out.upH hb6)
    have R36 := Lib.hid (R35.out.upH hb6)
    have B6 := Lib.hid (B5.out.trans (hb6.mono B5.out.size))
    clear h6 hb6
    go_wp2_with fail
    go_loop [11, 12] (fun v i => ∃ k : Nat, k ≤ n ∧ v = .int .i64 (sm F k : Nat) ∧ i = .int .i64 k) (fun _ i => n - (intOf i).toNat)
    case atStart => exact ⟨0, by omega, rfl, rfl⟩
    case round =>
      obtain ⟨k, hk, rfl, rfl⟩ := hrel
      by_cases hlt : k < n
      · obtain ⟨b, o, d, hA, hd, hc⟩ := R16.out.int k (by rw [rowZ_len]; exact hlt)
        have hd2 : d = (F k : Int) := by
          have h1 := hd.out
          rw [row_at hlt] at h1
          injection h1 with h1
          exact h1.symm
        have l1 := hb1.out (k + 1) (by omega)
        have l2 : sm F (k + 1) = sm F k + F k := rfl
        have HN := Lib.hid l2
        rw [l2] at l1
        have b0 : (0 : Int) ≤ (k : Int) := by omega
        have b1 : (k : Int) < (n : Int) := by omega
        have e1 : decide ((k : Int) < (n : Int)) = true := by simp; omega
        have e1' : decide (k < n) = true := by simp; omega
        subst hd2
        subst hA
        have l3 : sm F k + F k ≤ 480 := by omega
        clear hd l2 l1
        generalize sm F k = x at *
        generalize F k = y at *
        go_wp2_with fail
        go_round
        case rel => exact ⟨k + 1, by omega, by rw [HN.out]; go_num, by go_num⟩
        case measure => simp [intOf]; omega
      · have hkn : k = n := by omega
        subst hkn
        have e1 : decide ((k : Int) < (k : Int)) = false := by simp
        have e1' : decide (k < k) = false := by simp
        rw [HS.out]
        clear hlt
        go_wp2_with fail
        clear e1 e1'
        go_loop [11, 13] (fun v i => ∃ q : Nat, q ≤ m ∧ v = .int .i64 ((sm G m : Nat) - (sm G q : Nat) : Int) ∧ i = .int .i64 q) (fun _ i => m - (intOf i).toNat)
        case atStart => exact ⟨0, by omega, by show _ = Value.int .i64 (((sm G m : Nat) : Int) - ((0 : Nat) : Int)); simp, rfl⟩
        case round =>
          obtain ⟨q, hq, rfl, rfl⟩ := hrel
          by_cases hlq : q < m
          · obtain ⟨b, o, d, hA, hd, hc⟩ := R36.out.int q (by rw [rowZ_len]; exact hlq)
            have hd2 : d = (G q : Int) := by
              have h1 := hd.out
              rw [row_at hlq] at h1
              injection h1 with h1
              exact h1.symm
            have l1 := hb2.out (q + 1) (by omega)
            have l4 := hb2.out m (by omega)
            have l2 : sm G (q + 1) = sm G q + G q := rfl
            have HN := Lib.hid l2
            rw [l2] at l1
            have b0 : (0 : Int) ≤ (q : Int) := by omega
            have b1 : (q : Int) < (m : Int) := by omega
            have e1 : decide ((q : Int) < (m : Int)) = true := by simp; omega
            have e1' : decide (q < m) = true := by simp; omega
            subst hd2
            subst hA
            have l3 : sm G q + G q ≤ 480 := by omega
            have l5 : sm G m ≤ 480 := by omega
            clear hd l2 l1 l4
            generalize sm G q = x at *
            generalize sm G m = z at *
            generalize G q = y at *
            go_wp2_with fail
            go_round
            case rel => exact ⟨q + 1, by omega, by rw [HN.out]; go_num, by go_num⟩
            case measure => simp [intOf]; omega
          · have hqm : q = m := by omega
            subst hqm
            have e1 : decide ((q : Int) < (q : Int)) = false := by simp
            have e1' : decide (q < q) = false := by simp
            rw [show (((sm G q : Nat) : Int) - ((sm G q : Nat) : Int)) = 0 from by omega]
            clear hlq
            go_wp2_with fail
            refine (HK.out w6).mono ?_
            rintro e w7 ⟨rfl, hb⟩
            have B7 := Lib.hid (B6.out.trans (hb.mono B6.out.size))
            clear hb
            go_wp2_with fail
            go_ret
            exact ⟨rfl, B7.out⟩
  · go_wp2_with fail
    refine (HK.out w).mono ?_
    rintro e w7 ⟨rfl, hb⟩
    have B7 := Lib.hid hb
    clear hb
    go_wp2_with fail
    go_ret
    exact ⟨rfl, B7.out⟩
end Go.Proofs.YtgpghnhpbjnhkaaDoor

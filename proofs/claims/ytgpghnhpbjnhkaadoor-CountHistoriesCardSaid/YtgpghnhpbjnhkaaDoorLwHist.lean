/-
  CountHistories: the walk. Condition: the list can be read.
-/
import Derived.Test.YtgpghnhpbjnhkaaDoorHsf
namespace Go.Proofs.YtgpghnhpbjnhkaaDoor
open Go.RowKit
set_option linter.unusedVariables false

theorem Rd.three {w : World} {B : Nat} {A : Option Addr} {K : Nat → Nat} {n : Nat} (h : Rd w B A (ints (rowZ K (n * 3)))) (k : Nat) (hk : k < n) :
    ∃ b o, A = some ⟨b, o, none⟩ ∧ w.cell? ⟨b, o + k * 3, none⟩ = some (.int .i64 (K (k * 3) : Int)) ∧ w.cell? ⟨b, o + k * 3 + 1, none⟩ = some (.int .i64 (K (k * 3 + 1) : Int)) ∧ w.cell? ⟨b, o + k * 3 + 2, none⟩ = some (.int .i64 (K (k * 3 + 2) : Int)) := by
  have hi : ∀ j, j < n * 3 → (ints (rowZ K (n * 3)))[j]? = some (.int .i64 (K j : Int)) := fun j hj => ints_at (row_at hj)
  rcases h with h0 | ⟨b2, o2, ha2, _, hc2⟩
  · have := hi (k * 3) (by omega)
    rw [h0] at this
    cases this
  · exact ⟨b2, o2, ha2, hc2 (k * 3) _ (hi (k * 3) (by omega)), hc2 (k * 3 + 1) _ (hi (k * 3 + 1) (by omega)), hc2 (k * 3 + 2) _ (hi (k * 3 + 2) (by omega))⟩
set_option maxRecDepth 8000 in
set_option maxHeartbeats 4000000 in
theorem Histories_walk (A : Option Addr) (cp : Nat) (C : List ByteArray) (w : World) (hr : Rd w w.heap.size A (txts C)) (hs : Sz C) (hlc : C.length ≤ cp) (hcm : cp ≤ maxLen) :
    Calls Tryd.prog 3 #[.slice A C.length cp] w fun e w' => e = .returned (.bool true) ∧ Below w.heap.size w w' := by
  have hl : C.length ≤ 9223372036854775807 := by unfold maxLen at hcm; omega
  have HM := Lib.hid (Many_any A cp C hs hl w hr)
  have H1 := Lib.hid (fun w h => Catches_any A cp C hs hl w h)
  have H2 := Lib.hid (fun w h => rCatches_any A cp C hs hl w h)
  have H3 := Lib.hid (fun w h => First_any A cp C hs hl w h)
  have H4 := Lib.hid (fun w h => rFirst_any A cp C hs hl w h)
  have H5 := Lib.hid (fun w h => ValidateHistories_any A cp C hs hl w h)
  have H6 := Lib.hid (fun w h => rValidateHistories_any A cp C hs hl w h)
  have HK := Lib.hid (fun w => known_any w)
  have HR := Lib.hid hr
  obtain ⟨K, n, F, hF, hF2, hN, hG, hn8, hF60, hsum⟩ := cats_rows (C := C)
  have hA2 := first_same C
  unfold CatPost at H1
  unfold CadPost at H2
  unfold DayPost at H3 H4
  rw [← hA2] at H4
  rw [hF, hN] at H1
  rw [hF2, hN] at H2
  rw [hG] at H3 H4
  rw [rowZ_len] at H3 H4
  have HS := Lib.hid hsum
  have hb1 := Lib.hid (sm_le hF60)
  clear hr hs hF hF2 hN hG hsum hA2 hF60 hlc hcm
  generalize C.length = len at *
  generalize vhE C = E at *
  go_enter Tryd.func3, Tryd.ntmps3
  go_wp2_with fail
  refine HM.out.mono ?_
  rintro e w0 ⟨⟨q, rfl⟩, rfl⟩
  cases q
  · go_wp2_with fail
    refine (H1.out w HR.out).mono ?_
    rintro e w1 ⟨A1, c1, rfl, hr, hb⟩
    have B1 := Lib.hid hb
    have R1_1 := Lib.hid hr
    clear hb hr
    go_wp2_with fail
    refine (H2.out w1 (HR.out.upH B1.out)).mono ?_
    rintro e w2 ⟨A2, c2, rfl, hr, hb⟩
    have B2 := Lib.hid (B1.out.trans (hb.mono B1.out.size))
    have R1_2 := Lib.hid (R1_1.out.upH hb)
    have R2_2 := Lib.hid hr
    clear hb hr
    go_wp2_with fail
    refine (H3.out w2 (HR.out.upH B2.out)).mono ?_
    rintro e w3 ⟨A3, c3, rfl, hr, hb⟩
    have B3 := Lib.hid (B2.out.trans (hb.mono B2.out.size))
    have R1_3 := Lib.hid (R1_2.out.upH hb)
    have R2_3 := Lib.hid (R2_2.out.upH hb)
    have R3_3 := Lib.hid hr
    clear hb hr
    go_wp2_with fail
    refine (H4.out w3 (HR.out.upH B3.out)).mono ?_
    rintro e w4 ⟨A4, c4, rfl, hr, hb⟩
    have B4 := Lib.hid (B3.out.trans (hb.mono B3.out.size))
    have R1_4 := Lib.hid (R1_3.out.upH hb)
    have R2_4 := Lib.hid (R2_3.out.upH hb)
    have R3_4 := Lib.hid (R3_3.out.upH hb)
    have R4_4 := Lib.hid hr
    clear hb hr
    go_wp2_with fail
    refine (H5.out w4 (HR.out.upH B4.out)).mono ?_
    rintro e w5 ⟨rfl, hb⟩
    have B5 := Lib.hid (B4.out.trans (hb.mono B4.out.size))
    have R1_5 := Lib.hid (R1_4.out.upH hb)
    have R2_5 := Lib.hid (R2_4.out.upH hb)
    have R3_5 := Lib.hid (R3_4.out.upH hb)
    have R4_5 := Lib.hid (R4_4.out.upH hb)
    clear hb
    go_wp2_with fail
    refine (H6.out w5 (HR.out.upH B5.out)).mono ?_
    rintro e w6 ⟨rfl, m6, h6⟩
    have hb := bdH (Below.refl w5.heap.size w5) m6
    rw [← h6] at hb
    clear h6
    have B6 := Lib.hid (B5.out.trans (hb.mono B5.out.size))
    have R1_6 := Lib.hid (R1_5.out.upH hb)
    have R2_6 := Lib.hid (R2_5.out.upH hb)
    have R3_6 := Lib.hid (R3_5.out.upH hb)
    have R4_6 := Lib.hid (R4_5.out.upH hb)
    clear hb
    have S1 := Lib.hid (fun w h1 h2 => SameInts_any A3 A4 c3 c4 (rowZ F n) (rowZ F n) w h1 h2 (by rw [rowZ_len]; omega) (by rw [rowZ_len]; omega))
    rw [rowZ_len, decide_eq_true rfl] at S1
    go_wp2_with fail
    refine (S1.out w6 R3_6.out R4_6.out).mono ?_
    rintro e w7 ⟨rfl, m7, h7⟩
    have hb := bdH (Below.refl w6.heap.size w6) m7
    rw [← h7] at hb
    clear h7
    have B7 := Lib.hid (B6.out.trans (hb.mono B6.out.size))
    have R1_7 := Lib.hid (R1_6.out.upH hb)
    have R2_7 := Lib.hid (R2_6.out.upH hb)
    have R3_7 := Lib.hid (R3_6.out.upH hb)
    clear hb
    go_wp2_with fail
    go_loopw [11, 12] (fun v i wr => ∃ k mk : Nat, k ≤ n ∧ v = .int .i64 (sm F k : Nat) ∧ i = .int .i64 k ∧ wr = w7.drewN mk) (fun _ i _ => n - (intOf i).toNat)
    case atStart => exact ⟨0, 0, by omega, rfl, rfl, rfl⟩
    case round =>
      obtain ⟨k, mk, hk, rfl, rfl, hw⟩ := hrel
      have HW := Lib.hid hw
      by_cases hlt : k < n
      · obtain ⟨b, o, hA, k0, k1, k2⟩ := (show Rd wr w7.heap.size A1 _ by rw [hw]; exact R1_7.out.drewN mk).three k hlt
        obtain ⟨b2, o2, hA2, j0, j1, j2⟩ := (show Rd wr w7.heap.size A2 _ by rw [hw]; exact R2_7.out.drewN mk).three k hlt
        obtain ⟨b3, o3, d, hA3, hd, i0⟩ := (show Rd wr w7.heap.size A3 _ by rw [hw]; exact R3_7.out.drewN mk).int k (by rw [rowZ_len]; exact hlt)
        have hd2 : d = (F k : Int) := by
          have h1 := hd.out
          rw [row_at hlt] at h1
          injection h1 with h1
          exact h1.symm
        have l1 := hb1.out (k + 1) (by omega)
        have l2 : sm F (k + 1) = sm F k + F k := rfl
        have HN := Lib.hid l2
        have hks := HS.out k hlt
        rw [hks] at k0 j0
        rw [l2] at l1
        have b0 : (0 : Int) ≤ (k : Int) := by omega
        have b1 : (k : Int) < (n : Int) := by omega
        have e1 : decide ((k : Int) < (n : Int)) = true := by simp; omega
        have e1' : decide (k < n) = true := by simp; omega
        subst hd2
        subst hA hA2 hA3
        have l3 : sm F k + F k ≤ 480 := by omega
        clear hd l2 l1 hks hw
        generalize sm F k = x at *
        generalize F k = y at *
        generalize K (k * 3 + 1) = u at *
        generalize K (k * 3 + 2) = v at *
        go_wp2_with fail
        go_quiet (fail)
        go_wp2_with fail
        go_roundw
        case rel => exact ⟨k + 1, _, by omega, by rw [HN.out]; go_num, by go_num, by rw [HW.out]; exact World.drewN_drewN _ _ _⟩
        case measure => simp [intOf]; omega
      · have hkn : k = n := by omega
        subst hkn
        have e1 : decide ((k : Int) < (k : Int)) = false := by simp
        have e1' : decide (k < k) = false := by simp
        have B8 := Lib.hid (show Below w.heap.size w wr by rw [hw]; exact bdH B7.out mk)
        clear hlt hw
        go_wp2_with fail
        refine (HK.out wr).mono ?_
        rintro e w8 ⟨rfl, hb⟩
        have B9 := Lib.hid (B8.out.trans (hb.mono B8.out.size))
        clear hb
        go_wp2_with fail
        go_ret
        exact ⟨rfl, B9.out⟩
  · go_wp2_with fail
    refine (HK.out w).mono ?_
    rintro e w7 ⟨rfl, hb⟩
    have B7 := Lib.hid hb
    clear hb
    go_wp2_with fail
    go_ret
    exact ⟨rfl, B7.out⟩
end Go.Proofs.YtgpghnhpbjnhkaaDoor

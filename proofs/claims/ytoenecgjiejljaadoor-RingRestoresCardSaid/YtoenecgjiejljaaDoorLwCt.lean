/-
  The walks of the laws RingCounts and RingRestores: they return true. Conditions: the tables; the cell of the library's MaxLen holds a number.
-/
import Derived.Test.YtoenecgjiejljaaDoorRcb
import Derived.Test.YtoenecgjiejljaaDoorRc9
import Derived.Test.YtoenecgjiejljaaDoorRcd
import Derived.Test.YtoenecgjiejljaaDoorLwMk
namespace Go.Proofs.YtoenecgjiejljaaDoor
open Go.RowKit
set_option linter.unusedVariables false

set_option maxRecDepth 8000 in
set_option maxHeartbeats 4000000 in
theorem Counts_walk (s : ByteArray) (w : World) (hT : TabsR w) (hM : TbM w) (hs : s.size ≤ 9223372036854775807) :
    Calls Tryd.prog 6 #[.string s] w fun e w' => e = .returned (.bool true) ∧ Below w.heap.size w w' := by
  have HT := Lib.hid hT
  have HM := Lib.hid hM
  clear hT hM
  cases hls : decide (200 < s.size)
  case true =>
    have C1 := Lib.hid (fun w => long_is s _ w hs hls)
    clear hls
    go_enter Tryd.func6, Tryd.ntmps6
    go_wp2_with fail
    refine (C1.out w).mono ?_
    rintro e w' ⟨rfl, rfl⟩
    go_wp2_with fail
    refine (known_ok w HT.out).mono ?_
    rintro e w4 ⟨rfl, hbl⟩
    go_wp2_with fail
    go_ret
    exact ⟨rfl, hbl⟩
  have C1 := Lib.hid (fun w => long_is s _ w hs hls)
  have hs' : s.size ≤ 200 := by simp at hls; omega
  have T1 := Lib.hid (fun w h => Count_any s w (by omega) h)
  have T2 := Lib.hid (fun w => rCount_any s w (by omega))
  have T3 := Lib.hid (fun w h h' => First_any s w (by omega) h h')
  have T4 := Lib.hid (fun w => rFirst_any s w (by omega))
  have HK := Lib.hid (fun w h => known_ok w h)
  have b1 := list_self_ne (frS s)
  cases hb : frB s with
  | false =>
    rw [hb] at T3 T4
    rcases fr_none hb with ⟨e1, e2⟩ | ⟨e1, e2⟩
    · rw [e1, e2] at T1 T2
      rw [e1] at T3 T4
      clear hls hs' hs hb e1 e2
      generalize frS s = S at *
      go_enter Tryd.func6, Tryd.ntmps6
      go_wp2_with fail
      refine (C1.out w).mono ?_
      rintro e w' ⟨rfl, rfl⟩
      go_wp2_with fail
      refine (T1.out w HT.out).mono ?_
      rintro e w1 ⟨rfl, hb⟩
      have B1 := Lib.hid (hb)
      clear hb
      go_wp2_with fail
      refine (T2.out w1).mono ?_
      rintro e w2 ⟨rfl, hb⟩
      have B2 := Lib.hid (B1.out.trans (hb.mono B1.out.size))
      clear hb
      go_wp2_with fail
      refine (T3.out w2 (HT.out.below' B2.out) (HM.out.up B2.out)).mono ?_
      rintro e w3 ⟨rfl, hb⟩
      have B3 := Lib.hid (B2.out.trans (hb.mono B2.out.size))
      clear hb
      go_wp2_with fail
      refine (T4.out w3).mono ?_
      rintro e w4 ⟨rfl, hb⟩
      have B4 := Lib.hid (B3.out.trans (hb.mono B3.out.size))
      clear hb
      go_wp2_with fail
      refine (HK.out w4 (HT.out.below' B4.out)).mono ?_
      rintro e w9 ⟨rfl, hb⟩
      have B9 := Lib.hid (B4.out.trans (hb.mono B4.out.size))
      clear hb
      go_wp2_with fail
      go_ret
      exact ⟨rfl, B9.out⟩
    · rw [e1, e2] at T1 T2
      rw [e1] at T3 T4
      clear hls hs' hs hb e1 e2
      generalize frS s = S at *
      go_enter Tryd.func6, Tryd.ntmps6
      go_wp2_with fail
      refine (C1.out w).mono ?_
      rintro e w' ⟨rfl, rfl⟩
      go_wp2_with fail
      refine (T1.out w HT.out).mono ?_
      rintro e w1 ⟨rfl, hb⟩
      have B1 := Lib.hid (hb)
      clear hb
      go_wp2_with fail
      refine (T2.out w1).mono ?_
      rintro e w2 ⟨rfl, hb⟩
      have B2 := Lib.hid (B1.out.trans (hb.mono B1.out.size))
      clear hb
      go_wp2_with fail
      refine (T3.out w2 (HT.out.below' B2.out) (HM.out.up B2.out)).mono ?_
      rintro e w3 ⟨rfl, hb⟩
      have B3 := Lib.hid (B2.out.trans (hb.mono B2.out.size))
      clear hb
      go_wp2_with fail
      refine (T4.out w3).mono ?_
      rintro e w4 ⟨rfl, hb⟩
      have B4 := Lib.hid (B3.out.trans (hb.mono B3.out.size))
      clear hb
      go_wp2_with fail
      refine (HK.out w4 (HT.out.below' B4.out)).mono ?_
      rintro e w9 ⟨rfl, hb⟩
      have B9 := Lib.hid (B4.out.trans (hb.mono B4.out.size))
      clear hb
      go_wp2_with fail
      go_ret
      exact ⟨rfl, B9.out⟩
  | true =>
    obtain ⟨c1, c2, c3, c4⟩ := fr_fits hb
    have e1 : ctE s = 0 := by
      unfold frB at hb
      unfold ctE
      cases h : formB s true
      · rw [h] at hb; cases hb
      · rfl
    have T5 := Lib.hid (fun w h => Fits_any s (frS s) w (by omega) (by omega) h)
    rw [c2, c3] at T5
    rw [hb, e1] at T3 T4
    rw [e1] at T1 T2
    clear hls hs' hs hb e1 c2 c3 c4
    generalize frS s = S at *
    generalize ctV s = V at *
    have q1 : decide (0 < V) = true := decide_eq_true c1
    go_enter Tryd.func6, Tryd.ntmps6
    go_wp2_with fail
    refine (C1.out w).mono ?_
    rintro e w' ⟨rfl, rfl⟩
    go_wp2_with fail
    refine (T1.out w HT.out).mono ?_
    rintro e w1 ⟨rfl, hb⟩
    have B1 := Lib.hid (hb)
    clear hb
    go_wp2_with fail
    refine (T2.out w1).mono ?_
    rintro e w2 ⟨rfl, hb⟩
    have B2 := Lib.hid (B1.out.trans (hb.mono B1.out.size))
    clear hb
    go_wp2_with fail
    refine (T3.out w2 (HT.out.below' B2.out) (HM.out.up B2.out)).mono ?_
    rintro e w3 ⟨rfl, hb⟩
    have B3 := Lib.hid (B2.out.trans (hb.mono B2.out.size))
    clear hb
    go_wp2_with fail
    refine (T4.out w3).mono ?_
    rintro e w4 ⟨rfl, hb⟩
    have B4 := Lib.hid (B3.out.trans (hb.mono B3.out.size))
    clear hb
    go_wp2_with fail
    refine (T5.out w4 (HT.out.below' B4.out)).mono ?_
    rintro e w5 ⟨rfl, hb⟩
    have B5 := Lib.hid (B4.out.trans (hb.mono B4.out.size))
    clear hb
    go_wp2_with fail
    refine (HK.out w5 (HT.out.below' B5.out)).mono ?_
    rintro e w9 ⟨rfl, hb⟩
    have B9 := Lib.hid (B5.out.trans (hb.mono B5.out.size))
    clear hb
    go_wp2_with fail
    go_ret
    exact ⟨rfl, B9.out⟩
theorem set_text (s : ByteArray) {k : Nat} (hk : k < s.size) : (s.extract 0 k ++ (⟨#[63]⟩ : ByteArray)) ++ s.extract (k + 1) s.size = sL ((bl s).set k 63) := by
  apply bl_inj
  rw [bl_sL, bl_app, bl_app, bl_extract, bl_extract]
  have e1 : bl (⟨#[63]⟩ : ByteArray) = [63] := rfl
  have hl : k < (bl s).length := by rw [bl_len]; exact hk
  have e2 : ((bl s).drop (k + 1)).take (s.size - (k + 1)) = (bl s).drop (k + 1) := List.take_of_length_le (by rw [List.length_drop, bl_len]; omega)
  rw [e1, e2, List.drop_zero, Nat.sub_zero, List.set_eq_take_append_cons_drop, if_pos hl]
  simp
theorem worn_is (hd : List UInt8) (D : List Int) (j : Nat) (hj : j < 6) (hdd : ∀ x ∈ D, Dig x) : sL ((bl (rT hd D)).set (hd.length + j) 63) = wT hd (D.set j (-1)) := by
  unfold rT wT
  rw [bl_sL, List.set_append_right _ _ (by omega), Nat.add_sub_cancel_left]
  congr 2
  have h1 : D.map dgB = D.map wnB := List.map_congr_left fun x hx => by
    have := (hdd x hx).1
    unfold wnB
    rw [if_neg (by omega)]
  rw [h1, List.map_set]
  rfl
set_option maxRecDepth 8000 in
set_option maxHeartbeats 4000000 in
theorem Restores_walk (s : ByteArray) (n at_ : Int) (w : World) (hT : TabsR w) (hI : TbI w) (hM : TbM w) (hs : s.size ≤ 9223372036854775807) :
    Calls Tryd.prog 7 #[.string s, .int .i64 n, .int .i64 at_] w fun e w' => e = .returned (.bool true) ∧ Below w.heap.size w w' := by
  have HT := Lib.hid hT
  have HM := Lib.hid hM
  have HI := Lib.hid hI
  clear hT hM hI
  cases hls : decide (200 < s.size)
  case true =>
    have C1 := Lib.hid (fun w => long_is s _ w hs hls)
    clear hls
    go_enter Tryd.func7, Tryd.ntmps7
    go_wp2_with fail
    refine (C1.out w).mono ?_
    rintro e w' ⟨rfl, rfl⟩
    go_wp2_with fail
    refine (known_ok w HT.out).mono ?_
    rintro e w4 ⟨rfl, hbl⟩
    go_wp2_with fail
    go_ret
    exact ⟨rfl, hbl⟩
  have C1 := Lib.hid (fun w => long_is s _ w hs hls)
  have hs' : s.size ≤ 200 := by simp at hls; omega
  have T1 := Lib.hid (fun w h h' => Make_any s n w (by omega) h h')
  have HK := Lib.hid (fun w h => known_ok w h)
  by_cases h0 : mkE s n = 0
  case neg =>
    have z1 : (mkE s n != 0) = true := by simpa using h0
    clear hls hs' hs h0
    generalize mkS s n = S at *
    generalize mkE s n = E at *
    go_enter Tryd.func7, Tryd.ntmps7
    go_wp2_with fail
    refine (C1.out w).mono ?_
    rintro e w' ⟨rfl, rfl⟩
    go_wp2_with fail
    refine (T1.out w HT.out HI.out).mono ?_
    rintro e w1 ⟨rfl, hb⟩
    have B1 := Lib.hid (hb)
    clear hb
    go_wp2_with fail
    refine (HK.out w1 (HT.out.below' B1.out)).mono ?_
    rintro e w9 ⟨rfl, hb⟩
    have B9 := Lib.hid (B1.out.trans (hb.mono B1.out.size))
    clear hb
    go_wp2_with fail
    go_ret
    exact ⟨rfl, B9.out⟩
  obtain ⟨hse, hn0, hn9⟩ := mkE_0 h0
  have hsz := mk_size h0
  have hS : mkS s n = rT (bl s) (rgD n.toNat) := by unfold mkS; rw [if_pos h0, mkR_rT]
  have hlet := series_lett hse
  have hl12 := hlet.1
  rw [bl_len] at hl12
  rw [h0] at T1
  rw [hS] at T1 hsz
  have b0 := list_self (rT (bl s) (rgD n.toNat))
  obtain ⟨R, hR⟩ : ∃ R, rT (bl s) (rgD n.toNat) = R := ⟨_, rfl⟩
  rw [hR] at T1 hsz b0
  have q7 : decide ((R.size : Int) < 7) = false := decide_eq_false (by omega)
  have q7' : decide (R.size < 7) = false := decide_eq_false (by omega)
  have HSZ := Lib.hid hsz
  obtain ⟨h, hh⟩ : ∃ h, s.size = h := ⟨_, rfl⟩
  obtain ⟨j, hj, hj6⟩ : ∃ j : Nat, (IntKind.u64.wrap at_).tmod 6 = (j : Int) ∧ j < 6 := by
    have h0 : 0 ≤ IntKind.u64.wrap at_ := by
      show 0 ≤ at_ % 18446744073709551616
      omega
    refine ⟨((IntKind.u64.wrap at_).tmod 6).toNat, ?_, ?_⟩
    · rw [Int.tmod_eq_emod_of_nonneg h0]; omega
    · rw [Int.tmod_eq_emod_of_nonneg h0]; omega
  have q8 : (R.size : Int) - 6 = (h : Int) := by omega
  obtain ⟨k, hk⟩ : ∃ k : Nat, h + j = k := ⟨_, rfl⟩
  have q9 : (h : Int) + (j : Int) = (k : Int) := by omega
  have hW := set_text R (k := k) (by omega)
  have hWT : sL ((bl R).set k 63) = wT (bl s) ((rgD n.toNat).set j (-1)) := by
    rw [← hR, ← worn_is _ _ _ hj6 (rgD_dig _), ← hk, bl_len, hh]
  rw [hWT] at hW
  obtain ⟨c1, c2, c3, c4⟩ := one_worn hlet (rgD_len n.toNat) (rgD_dig _) (rgD_sum _) hj6
  have hws : (wT (bl s) ((rgD n.toNat).set j (-1))).size ≤ 900 := by rw [wT_size (by rw [List.length_set, rgD_len]), bl_len]; omega
  have T2 := Lib.hid (fun w h => Count_any (wT (bl s) ((rgD n.toNat).set j (-1))) w hws h)
  have T3 := Lib.hid (fun w h h' => First_any (wT (bl s) ((rgD n.toNat).set j (-1))) w hws h h')
  rw [c1, c2] at T2
  rw [c1, c3, c4, hR] at T3
  generalize wT (bl s) ((rgD n.toNat).set j (-1)) = W at *
  have k0 : (0 : Int) ≤ (k : Int) := by omega
  have k1 : (k : Int) ≤ (R.size : Int) := by omega
  have k2 : (k : Int) + 1 ≤ (R.size : Int) := by omega
  have k3 : ((k : Int) + 1).toNat = k + 1 := by omega
  have k4 : (k : Int) + 1 ≤ 100 := by omega
  have k5 : (h : Int) ≤ 100 := by omega
  have k6 : (j : Int) ≤ 6 := by omega
  have ew : IntKind.i64.wrap ((k : Int) + 1) = (k : Int) + 1 := by rw [IntKind.wrap_i64]; omega
  have HW := Lib.hid hW
  have r8 : R.size ≤ 8 := by omega
  clear hWT hW c1 c2 c3 c4 hws hk hj6
  clear hls hs h0 hse hn0 hn9 hS hR hlet hsz hh
  go_enter Tryd.func7, Tryd.ntmps7
  go_wp2_with fail
  refine (C1.out w).mono ?_
  rintro e w' ⟨rfl, rfl⟩
  go_wp2_with fail
  refine (T1.out w HT.out HI.out).mono ?_
  rintro e w1 ⟨rfl, hb⟩
  have B1 := Lib.hid (hb)
  clear hb
  go_wp2_with fail
  go_quiet (fail)
  go_wp2_with fail
  rw [HW.out]
  refine (T2.out _ (HT.out.below' (below_drewN B1.out _))).mono ?_
  rintro e w3 ⟨rfl, hb⟩
  have B3 := Lib.hid ((below_drewN B1.out _).trans (hb.mono B1.out.size))
  clear hb HW
  go_wp2_with fail
  refine (T3.out w3 (HT.out.below' B3.out) (HM.out.up B3.out)).mono ?_
  rintro e w4 ⟨rfl, hb⟩
  have B4 := Lib.hid (B3.out.trans (hb.mono B3.out.size))
  clear hb
  go_wp2_with fail
  refine (HK.out w4 (HT.out.below' B4.out)).mono ?_
  rintro e w9 ⟨rfl, hb⟩
  have B9 := Lib.hid (B4.out.trans (hb.mono B4.out.size))
  clear hb
  go_wp2_with fail
  go_ret
  exact ⟨rfl, B9.out⟩
end Go.Proofs.YtoenecgjiejljaaDoor

/-
  The walks of the laws RingReads and RingMakes: they return true. Conditions: 'TabsR' and the table of powers of ten.
-/
import Derived.Test.YtoenecgjiejljaaDoorRm4
import Derived.Test.YtoenecgjiejljaaDoorLawFits
namespace Go.Proofs.YtoenecgjiejljaaDoor
open Go.RowKit
set_option linter.unusedVariables false

theorem list_self (s : ByteArray) : (s.toList == s.toList) = true := by simp
theorem list_self_ne (s : ByteArray) : (!(s.toList == s.toList)) = false := by simp
set_option maxRecDepth 8000 in
set_option maxHeartbeats 2000000 in
theorem Reads_walk (s : ByteArray) (w : World) (hT : TabsR w) (hI : TbI w) (hs : s.size ≤ 9223372036854775807) :
    Calls Tryd.prog 3 #[.string s] w fun e w' => e = .returned (.bool true) ∧ Below w.heap.size w w' := by
  have HT := Lib.hid hT
  have HI := Lib.hid hI
  clear hT hI
  cases hls : decide (200 < s.size)
  · have C1 := Lib.hid (fun w => long_is s _ w hs hls)
    have hs' : s.size ≤ 900 := by simp at hls; omega
    have T1 := Lib.hid (fun w h => rgSplit_any s w (by omega) h)
    have T2 := Lib.hid (fun w => rgrSplit_any s w (by omega))
    have T3 := Lib.hid (fun w h h' => Next_any s w hs' h h')
    have T4 := Lib.hid (fun w => rNext_any s w hs')
    have T5 := Lib.hid (fun w h => Valid_any s w (by omega) h)
    have T6 := Lib.hid (fun w => rValid_any s w (by omega))
    have HK := Lib.hid (fun w h => known_ok w h)
    have b1 := list_self (splitS s)
    have b2 := list_self (nxS s)
    clear hls hs' hs
    generalize splitS s = S at *
    generalize splitN s = N at *
    generalize validE s = E at *
    generalize nxS s = X at *
    generalize nxE s = Y at *
    go_enter Tryd.func3, Tryd.ntmps3
    go_wp2_with fail
    refine (C1.out w).mono ?_
    rintro e w' ⟨rfl, rfl⟩
    go_wp2_with fail
    refine (T1.out w HT.out).mono ?_
    rintro e w1 ⟨rfl, hb⟩
    have B1 := Lib.hid hb
    clear hb
    go_wp2_with fail
    refine (T2.out w1).mono ?_
    rintro e w2 ⟨rfl, hb⟩
    have B2 := Lib.hid (B1.out.trans (hb.mono B1.out.size))
    clear hb
    go_wp2_with fail
    refine (T3.out w2 (HT.out.below' B2.out) (HI.out.up B2.out)).mono ?_
    rintro e w3 ⟨rfl, hb⟩
    have B3 := Lib.hid (B2.out.trans (hb.mono B2.out.size))
    clear hb
    go_wp2_with fail
    refine (T4.out w3).mono ?_
    rintro e w4 ⟨rfl, hb⟩
    have B4 := Lib.hid (B3.out.trans (hb.mono B3.out.size))
    clear hb
    go_wp2_with fail
    refine (T5.out w4 (HT.out.below' B4.out)).mono ?_
    rintro e w5 ⟨rfl, hb⟩
    have B5 := Lib.hid (B4.out.trans (hb.mono B4.out.size))
    clear hb
    go_wp2_with fail
    refine (T6.out w5).mono ?_
    rintro e w6 ⟨rfl, hb⟩
    have B6 := Lib.hid (B5.out.trans (hb.mono B5.out.size))
    clear hb
    go_wp2_with fail
    refine (HK.out w6 (HT.out.below' B6.out)).mono ?_
    rintro e w7 ⟨rfl, hb⟩
    have B7 := Lib.hid (B6.out.trans (hb.mono B6.out.size))
    clear hb
    go_wp2_with fail
    go_ret
    exact ⟨rfl, B7.out⟩
  · have C1 := Lib.hid (fun w => long_is s _ w hs hls)
    clear hls
    go_enter Tryd.func3, Tryd.ntmps3
    go_wp2_with fail
    refine (C1.out w).mono ?_
    rintro e w' ⟨rfl, rfl⟩
    go_wp2_with fail
    refine (known_ok w HT.out).mono ?_
    rintro e w4 ⟨rfl, hbl⟩
    go_wp2_with fail
    go_ret
    exact ⟨rfl, hbl⟩
set_option maxRecDepth 8000 in
set_option maxHeartbeats 2000000 in
theorem Makes_walk (s : ByteArray) (n : Int) (w : World) (hT : TabsR w) (hI : TbI w) (hs : s.size ≤ 9223372036854775807) :
    Calls Tryd.prog 4 #[.string s, .int .i64 n] w fun e w' => e = .returned (.bool true) ∧ Below w.heap.size w w' := by
  have HT := Lib.hid hT
  have HI := Lib.hid hI
  clear hT hI
  cases hls : decide (200 < s.size)
  · have C1 := Lib.hid (fun w => long_is s _ w hs hls)
    have hs' : s.size ≤ 900 := by simp at hls; omega
    have T1 := Lib.hid (fun w h h' => Make_any s n w (by omega) h h')
    have T2 := Lib.hid (fun w => rMake_any s n w (by omega))
    have HK := Lib.hid (fun w h => known_ok w h)
    have b1 := list_self_ne (mkS s n)
    by_cases h0 : mkE s n = 0
    · have T3 := Lib.hid (fun w h => rgSplit_any (mkS s n) w (by rw [mk_size h0]; omega) h)
      obtain ⟨x1, x2, x3⟩ := mk_back h0
      rw [x1, x2, x3] at T3
      rw [h0] at T1 T2
      have b2 := list_self s
      clear hls hs' hs h0 x1 x2 x3
      generalize mkS s n = S at *
      go_enter Tryd.func4, Tryd.ntmps4
      go_wp2_with fail
      refine (C1.out w).mono ?_
      rintro e w' ⟨rfl, rfl⟩
      go_wp2_with fail
      refine (T1.out w HT.out HI.out).mono ?_
      rintro e w1 ⟨rfl, hb⟩
      have B1 := Lib.hid hb
      clear hb
      go_wp2_with fail
      refine (T2.out w1).mono ?_
      rintro e w2 ⟨rfl, hb⟩
      have B2 := Lib.hid (B1.out.trans (hb.mono B1.out.size))
      clear hb
      go_wp2_with fail
      refine (T3.out w2 (HT.out.below' B2.out)).mono ?_
      rintro e w3 ⟨rfl, hb⟩
      have B3 := Lib.hid (B2.out.trans (hb.mono B2.out.size))
      clear hb
      go_wp2_with fail
      refine (HK.out w3 (HT.out.below' B3.out)).mono ?_
      rintro e w7 ⟨rfl, hb⟩
      have B7 := Lib.hid (B3.out.trans (hb.mono B3.out.size))
      clear hb
      go_wp2_with fail
      go_ret
      exact ⟨rfl, B7.out⟩
    · have z1 : (mkE s n != 0) = true := by simpa using h0
      clear hls hs' hs h0
      generalize mkS s n = S at *
      generalize mkE s n = E at *
      go_enter Tryd.func4, Tryd.ntmps4
      go_wp2_with fail
      refine (C1.out w).mono ?_
      rintro e w' ⟨rfl, rfl⟩
      go_wp2_with fail
      refine (T1.out w HT.out HI.out).mono ?_
      rintro e w1 ⟨rfl, hb⟩
      have B1 := Lib.hid hb
      clear hb
      go_wp2_with fail
      refine (T2.out w1).mono ?_
      rintro e w2 ⟨rfl, hb⟩
      have B2 := Lib.hid (B1.out.trans (hb.mono B1.out.size))
      clear hb
      go_wp2_with fail
      refine (HK.out w2 (HT.out.below' B2.out)).mono ?_
      rintro e w7 ⟨rfl, hb⟩
      have B7 := Lib.hid (B2.out.trans (hb.mono B2.out.size))
      clear hb
      go_wp2_with fail
      go_ret
      exact ⟨rfl, B7.out⟩
  · have C1 := Lib.hid (fun w => long_is s _ w hs hls)
    clear hls
    go_enter Tryd.func4, Tryd.ntmps4
    go_wp2_with fail
    refine (C1.out w).mono ?_
    rintro e w' ⟨rfl, rfl⟩
    go_wp2_with fail
    refine (known_ok w HT.out).mono ?_
    rintro e w4 ⟨rfl, hbl⟩
    go_wp2_with fail
    go_ret
    exact ⟨rfl, hbl⟩
end Go.Proofs.YtoenecgjiejljaaDoor

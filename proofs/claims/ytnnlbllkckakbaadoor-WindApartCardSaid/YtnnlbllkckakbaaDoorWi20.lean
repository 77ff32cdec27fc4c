/-
  The walks of gather (all winds) and CheckApart of package wind, of apart and CheckApart of the reference. No condition.
-/
import Derived.Test.YtnnlbllkckakbaaDoorWb5
import Derived.Test.YtnnlbllkckakbaaDoorWi12
import Derived.Test.YtnnlbllkckakbaaDoorWi16
namespace Go.Proofs.YtnnlbllkckakbaaDoor
open Go.RowKit
set_option linter.unusedVariables false

set_option maxRecDepth 4000 in
theorem gather32 (A : Option Addr) (c : Nat) (L : List Int) (w : World) (hr : Rd w w.heap.size A (ints L)) (hn : L.length ≤ 9223372036854775807) (hs : setL 32 L = true) :
    Calls Tryd.prog 80 #[.slice A L.length c] w fun e w' => e = .returned (.int .u32 (gatN L : Nat)) ∧ w = w' := by
  have HR := Lib.hid hr
  have HS := Lib.hid hs
  clear hr hs
  go_enter Tryd.func80, Tryd.ntmps80
  go_wp2
  go_loop [3, 8] (fun v i => ∃ k : Nat, k ≤ L.length ∧ i = .int .i64 k ∧ v = .int .u32 (gatN (L.take k) : Nat)) (fun _ i => L.length - (intOf i).toNat)
  case atStart => exact ⟨0, by omega, rfl, by rw [show gatN (L.take 0) = 0 from bitK_zero fun j _ => rfl]; rfl⟩
  case round =>
    obtain ⟨k, hk, rfl, rfl⟩ := hrel
    by_cases hlt : k < L.length
    · obtain ⟨b, o, d, rfl, hd, hc⟩ := HR.out.int k hlt
      have hdl := set_in HS.out hd.out
      obtain ⟨n, rfl⟩ := Int.eq_ofNat_of_zero_le hdl.1
      have HN := Lib.hid (gat32 hd.out (by omega))
      have HSh := Lib.hid (shl32 (k := n) (by omega))
      have hgl : gatN (L.take k) < 4294967296 := bit32 _
      generalize gatN (L.take k) = G at *
      have b0 : (0 : Int) ≤ (n : Int) := by omega
      have b1 : (n : Int) < 32 := by omega
      clear hdl
      go_wp2_with fail
      go_round
      case rel => exact ⟨k + 1, by omega, by go_num, by rw [HSh.out, HN.out]⟩
      case measure => simp [intOf]; omega
    · have hks : k = L.length := by omega
      subst hks
      have hl : gatN (L.take L.length) = gatN L := by rw [List.take_length]
      rw [hl]
      clear hl
      go_wp2_with fail
      go_ret
      exact ⟨rfl, rfl⟩
set_option maxRecDepth 4000 in
set_option maxHeartbeats 800000 in
theorem CheckApart_any (A1 A2 : Option Addr) (c1 c2 : Nat) (l : List Pt) (L : List Int) (w : World) (hr1 : Rd w w.heap.size A1 (l.flatMap Pt.cells)) (hr2 : Rd w w.heap.size A2 (ints L)) (hn1 : l.length ≤ 9223372036854775807) (hn2 : L.length ≤ 9223372036854775807) :
    Calls Tryd.prog 47 #[.slice A1 l.length c1, .slice A2 L.length c2] w fun e w' => e = .returned (.int .i64 (apE l L)) ∧ Below w.heap.size w w' := by
  have R1 := Lib.hid hr1
  have R2 := Lib.hid hr2
  have HV := Lib.hid (fun w h => ValidatePipes_any A1 c1 l w h hn1)
  have HS := Lib.hid (fun w h => isSet_any A2 c2 L 32 w h hn2)
  clear hr1 hr2
  by_cases hE : pipesE l = 0
  · obtain ⟨h10, hok⟩ := pipesE_zero hE
    have HO := Lib.hid hok
    clear hok
    by_cases hs : setL 32 L = true
    · have e1 : apE l L = apR (apB l L) := by unfold apE; rw [if_pos hE, if_pos hs]
      have HG := Lib.hid (fun w h => gather32 A2 c2 L w h hn2 hs)
      have HP := Lib.hid (fun (a : Pt) (h : okA a = true) w => pointsOf_any a w (arcE_yes h))
      have HC := Lib.hid (fun a w => count_any (apN L a) w (bit32 _))
      simp only [ap_len] at HC
      have HA := Lib.hid (fun a => ap_and L a)
      have HB := Lib.hid (fun k a hx h => apB_bad (l := l) (L := L) (k := k) (a := a) hx h)
      have HBk := Lib.hid (fun h => apB_ok (l := l) (L := L) h)
      rw [e1]
      rw [hE] at HV
      rw [hs] at HS
      clear hE hs e1
      generalize hBB : apB l L = B at *
      clear hBB
      generalize hGG : gatN L = G at *
      have hgl : G < 4294967296 := by rw [← hGG]; exact bit32 _
      clear hGG
      go_enter Tryd.func47, Tryd.ntmps47
      go_wp2_with fail
      refine (HV.out w R1.out).mono ?_
      rintro e w1 ⟨rfl, hb⟩
      have B1 := Lib.hid hb
      have S1 := Lib.hid ((R1.out.below hb (Nat.le_refl _)).more hb.size)
      have S2 := Lib.hid ((R2.out.below hb (Nat.le_refl _)).more hb.size)
      clear hb
      go_wp2_with fail
      refine (HS.out w1 S2.out).mono ?_
      rintro e w' ⟨rfl, rfl⟩
      go_wp2_with fail
      refine (HG.out w1 S2.out).mono ?_
      rintro e w' ⟨rfl, rfl⟩
      go_wp2_with fail
      go_loopw [21] (fun i wr => ∃ k : Nat, k ≤ l.length ∧ i = .int .i64 k ∧ (∀ (j : Nat) a, j < k → l[j]? = some a → apC L a ≤ 1) ∧ Below w1.heap.size w1 wr) (fun i _ => l.length - (intOf i).toNat)
      case atStart => exact ⟨0, by omega, rfl, fun j a hj => by omega, Below.refl _ _⟩
      case round =>
        obtain ⟨k, hk, rfl, hall, hb⟩ := hrel
        have HAll := Lib.hid hall
        have BW := Lib.hid hb
        clear hb hall
        by_cases hlt : k < l.length
        · obtain ⟨b, o, a, rfl, hd, c0, c1'⟩ := (S1.out.below BW.out (Nat.le_refl _)).pt k hlt
          have hoka := HO.out a (List.mem_of_getElem? hd.out)
          have HX := Lib.hid (fun w => HP.out a hoka w)
          have HAa := Lib.hid (HA.out a)
          have HCa := Lib.hid (fun w => HC.out a w)
          have hcl : apC L a ≤ 32 := cntK_le _ 32
          obtain ⟨W, hW, d0, d1, hs, hb0⟩ := one_pt wr (.int .i64 a.x) (.int .i64 a.y) 23
          have B0 := Lib.hid (BW.out.trans (hb0.mono BW.out.size))
          clear hb0 hs
          have hal : arcN a < 4294967296 := arcN_lt a
          have HN := Lib.hid (show apC L a ≤ 1 → ∀ (j : Nat) b, j < k + 1 → l[j]? = some b → apC L b ≤ 1 from fun h j b hj hx => by
            rcases Nat.lt_or_ge j k with h1 | h1
            · exact HAll.out j b h1 hx
            · obtain rfl : j = k := by omega
              rw [hd.out] at hx
              injection hx with hx
              rw [← hx]
              exact h)
          have HBd := Lib.hid (fun h => HB.out k a hd.out h)
          generalize hCC : apC L a = C at *
          clear hCC
          generalize arcN a = M at *
          generalize apN L a = Q at *
          obtain ⟨x, y⟩ := a
          unfold Pt.v at HX
          simp only at c0 c1' HX hW d0 d1
          by_cases h1 : 1 < C
          · have e1 : decide ((1 : Int) < (C : Int)) = true := by simp; omega
            have HEB := Lib.hid (HBd.out h1)
            clear h1
            go_wp2_with fail
            clear hW
            go_wp2_with fail
            refine (HX.out W).mono ?_
            rintro e w2 ⟨rfl, hb⟩
            have B2 := Lib.hid (B0.out.trans (hb.mono B0.out.size))
            clear hb
            go_wp2_with fail
            rw [HAa.out]
            refine (HCa.out w2).mono ?_
            rintro e w' ⟨rfl, m, rfl⟩
            go_wp2_with fail
            go_ret
            exact ⟨by rw [HEB.out]; rfl, B1.out.trans ((below_drewN B2.out m).mono B1.out.size)⟩
          · have e1 : decide ((1 : Int) < (C : Int)) = false := by simp; omega
            have HNx := Lib.hid (HN.out (by omega))
            clear h1
            go_wp2_with fail
            clear hW
            go_wp2_with fail
            refine (HX.out W).mono ?_
            rintro e w2 ⟨rfl, hb⟩
            have B2 := Lib.hid (B0.out.trans (hb.mono B0.out.size))
            clear hb
            go_wp2_with fail
            rw [HAa.out]
            refine (HCa.out w2).mono ?_
            rintro e w' ⟨rfl, m, rfl⟩
            go_wp2_with fail
            go_roundw
            case rel => exact ⟨k + 1, by omega, by go_num, HNx.out, below_drewN B2.out m⟩
            case measure => simp [intOf]; omega
        · have hks : k = l.length := by omega
          subst hks
          have HEB := Lib.hid (HBk.out HAll.out)
          go_wp2_with fail
          go_ret
          exact ⟨by rw [HEB.out]; rfl, B1.out.trans (BW.out.mono B1.out.size)⟩
    · have e1 : apE l L = 1 := by unfold apE; rw [if_pos hE, if_neg hs]
      rw [Bool.not_eq_true] at hs
      rw [e1]
      rw [hE] at HV
      rw [hs] at HS
      clear hE hs e1
      go_enter Tryd.func47, Tryd.ntmps47
      go_wp2_with fail
      refine (HV.out w R1.out).mono ?_
      rintro e w1 ⟨rfl, hb⟩
      have B1 := Lib.hid hb
      have S2 := Lib.hid ((R2.out.below hb (Nat.le_refl _)).more hb.size)
      clear hb
      go_wp2_with fail
      refine (HS.out w1 S2.out).mono ?_
      rintro e w' ⟨rfl, rfl⟩
      go_wp2_with fail
      go_ret
      exact ⟨rfl, B1.out⟩
  · have e1 : apE l L = pipesE l := if_neg hE
    rw [e1]
    generalize pipesE l = E at *
    have hb1 : (E == 0) = false := by simpa using hE
    have hb2 : (E != 0) = true := by simpa using hE
    clear hE e1
    go_enter Tryd.func47, Tryd.ntmps47
    go_wp2_with fail
    refine (HV.out w R1.out).mono ?_
    rintro e w1 ⟨rfl, hb⟩
    have B1 := Lib.hid hb
    clear hb
    go_wp2_with fail
    go_ret
    exact ⟨rfl, B1.out⟩

/-! ### The document's side -/
set_option maxRecDepth 4000 in
set_option maxHeartbeats 800000 in
theorem rapart_any (A1 A2 : Option Addr) (c1 c2 : Nat) (l : List Pt) (L : List Int) (w : World) (hr1 : Rd w w.heap.size A1 (l.flatMap Pt.cells)) (hr2 : Rd w w.heap.size A2 (ints L)) (hn : pipesE l = 0) (hs : setL 32 L = true) (hn2 : L.length ≤ 9223372036854775807) :
    Calls Tryd.prog 86 #[.slice A1 l.length c1, .slice A2 L.length c2] w fun e w' => e = .returned (.bool (apB l L)) ∧ Below w.heap.size w w' := by
  have R1 := Lib.hid hr1
  have R2 := Lib.hid hr2
  obtain ⟨h10, hok⟩ := pipesE_zero hn
  have HO := Lib.hid hok
  have HS := Lib.hid hs
  have HAl := Lib.hid (fun a => apK_all hs a)
  have HB := Lib.hid (fun k a hx h => apB_bad (l := l) (L := L) (k := k) (a := a) hx h)
  have HBk := Lib.hid (fun h => apB_ok (l := l) (L := L) h)
  clear hr1 hr2 hok hn hs
  generalize hBB : apB l L = B at *
  clear hBB
  go_enter Tryd.func86, Tryd.ntmps86
  go_wp2_with fail
  go_loopw [5, 6, 7] (fun i _ _ wr => ∃ k : Nat, k ≤ l.length ∧ i = .int .i64 k ∧ (∀ (j : Nat) a, j < k → l[j]? = some a → apC L a ≤ 1) ∧ Below w.heap.size w wr) (fun i _ _ _ => l.length - (intOf i).toNat)
  case atStart => exact ⟨0, by omega, rfl, fun j a hj => by omega, Below.refl _ _⟩
  case round =>
    obtain ⟨k, hk, rfl, hall, hb⟩ := hrel
    have HAll := Lib.hid hall
    have BW := Lib.hid hb
    clear hb hall
    by_cases hlt : k < l.length
    · obtain ⟨a, hd0⟩ : ∃ a, l[k]? = some a := ⟨_, List.getElem?_eq_getElem hlt⟩
      have hd := Lib.hid hd0
      clear hd0
      have hoka := HO.out a (List.mem_of_getElem? hd.out)
      have HH := Lib.hid (fun p w hp => rhas_int a p w hoka hp)
      have HAa := Lib.hid (HAl.out a)
      have HKn := Lib.hid (fun k d h => apK_next (L := L) (k := k) (d := d) h a)
      have HKl := Lib.hid (fun k => apK_le L a k)
      have HN := Lib.hid (show apC L a ≤ 1 → ∀ (j : Nat) b, j < k + 1 → l[j]? = some b → apC L b ≤ 1 from fun h j b hj hx => by
        rcases Nat.lt_or_ge j k with h1 | h1
        · exact HAll.out j b h1 hx
        · obtain rfl : j = k := by omega
          rw [hd.out] at hx
          injection hx with hx
          rw [← hx]
          exact h)
      have HBd := Lib.hid (fun h => HB.out k a hd.out h)
      obtain ⟨wo, rfl⟩ : ∃ wo : World, wo = wr := ⟨_, rfl⟩
      go_wp2_with fail
      go_loopw [6, 7] (fun nv iv wr => ∃ q : Nat, q ≤ L.length ∧ iv = .int .i64 q ∧ nv = .int .i64 (apK L a q : Nat) ∧ Below wo.heap.size wo wr) (fun _ iv _ => L.length - (intOf iv).toNat)
      case atStart => exact ⟨0, by omega, rfl, rfl, Below.refl _ _⟩
      case round =>
        obtain ⟨q, hq, rfl, rfl, hb⟩ := hrel
        have BV := Lib.hid hb
        have BA := Lib.hid (BW.out.trans (hb.mono BW.out.size))
        clear hb
        have hkl := HKl.out q
        by_cases hlq : q < L.length
        · obtain ⟨b2, o2, d, rfl, hd2, hc2⟩ := (R2.out.below BA.out (Nat.le_refl _)).int q hlq
          have hdl := set_in HS.out hd2.out
          obtain ⟨n, rfl⟩ := Int.eq_ofNat_of_zero_le hdl.1
          have hn32 : n < 32 := by omega
          have HQ := Lib.hid (fun w => HH.out n w hn32)
          clear hn32
          have HNx := HKn.out q n hd2.out
          rw [Int.toNat_natCast] at HNx
          have b0 : (0 : Int) ≤ (n : Int) := by omega
          have b1 : (n : Int) < 32 := by omega
          obtain ⟨b', o', a', rfl, hd', d0, d1⟩ := (R1.out.below BA.out (Nat.le_refl _)).pt k hlt
          obtain rfl : a = a' := by
            have h1 := hd.out
            rw [hd'.out] at h1
            injection h1 with h1
            exact h1.symm
          clear hd' hdl
          cases hq : hasN a n
          · have HS := Lib.hid (show apK L a (q + 1) = apK L a q by rw [HNx, hq]; rfl)
            rw [hq] at HQ
            clear hq HNx
            generalize apK L a q = C at *
            obtain ⟨x, y⟩ := a
            unfold Pt.v at HQ
            simp only at d0 d1 HQ
            have g0 := fun d os => cell_regrown d0 d os
            have g1 := fun d os => cell_regrown d1 d os
            have g2 := fun d os => cell_regrown hc2 d os
            have HQn := Lib.hid (fun w => HQ.out w)
            clear d0 d1 hc2 HQ
            go_wp2_with fail
            refine wp_region_quiet_below (by kernel_rfl) (by kernel_rfl) ?_
            repeat (go_big_quiet_step (with_reducible exact Calls.regrown_of (HQn.out _)))
            refine wpQuiet_nil ?_
            intro _ hw'
            obtain ⟨⟨dq, osq⟩, hw''⟩ := hw'
            subst hw''
            generalize hW2 : «Sort».grow _ _ = w2
            have BR : Below wr.heap.size wr w2 := by rw [← hW2]; exact below_regrown wr dq osq
            have B2 := Lib.hid (BV.out.trans (BR.mono BV.out.size))
            clear BR hW2 g0 g1 g2
            go_wp2_with fail
            go_roundw
            case rel => exact ⟨q + 1, by omega, by go_num, by rw [HS.out], B2.out⟩
            case measure => simp [intOf]; omega
          · have HS := Lib.hid (show apK L a (q + 1) = apK L a q + 1 by rw [HNx, hq]; rfl)
            rw [hq] at HQ
            clear hq HNx
            generalize apK L a q = C at *
            obtain ⟨x, y⟩ := a
            unfold Pt.v at HQ
            simp only at d0 d1 HQ
            have g0 := fun d os => cell_regrown d0 d os
            have g1 := fun d os => cell_regrown d1 d os
            have g2 := fun d os => cell_regrown hc2 d os
            have HQn := Lib.hid (fun w => HQ.out w)
            clear d0 d1 hc2 HQ
            go_wp2_with fail
            refine wp_region_quiet_below (by kernel_rfl) (by kernel_rfl) ?_
            repeat (go_big_quiet_step (with_reducible exact Calls.regrown_of (HQn.out _)))
            refine wpQuiet_nil ?_
            intro _ hw'
            obtain ⟨⟨dq, osq⟩, hw''⟩ := hw'
            subst hw''
            generalize hW2 : «Sort».grow _ _ = w2
            have BR : Below wr.heap.size wr w2 := by rw [← hW2]; exact below_regrown wr dq osq
            have B2 := Lib.hid (BV.out.trans (BR.mono BV.out.size))
            clear BR hW2 g0 g1 g2
            go_wp2_with fail
            go_roundw
            case rel => exact ⟨q + 1, by omega, by go_num, by rw [HS.out]; go_num, B2.out⟩
            case measure => simp [intOf]; omega
        · have hks : q = L.length := by omega
          subst hks
          have BO := Lib.hid (BW.out.trans (BV.out.mono BW.out.size))
          rw [HAa.out] at hkl ⊢
          by_cases h1 : 1 < apC L a
          · have e1 : decide ((1 : Int) < ((apC L a : Nat) : Int)) = true := by simp; omega
            have HEB := Lib.hid (HBd.out h1)
            clear h1
            go_wp2_with fail
            go_ret
            exact ⟨by rw [HEB.out]; rfl, BO.out⟩
          · have e1 : decide ((1 : Int) < ((apC L a : Nat) : Int)) = false := by simp; omega
            have HNx := Lib.hid (HN.out (by omega))
            clear h1
            go_wp2_with fail
            go_roundw
            case rel => exact ⟨k + 1, by omega, by go_num, HNx.out, BO.out⟩
            case measure => simp [intOf]; omega
    · have hks : k = l.length := by omega
      subst hks
      have HEB := Lib.hid (HBk.out HAll.out)
      go_wp2_with fail
      go_ret
      exact ⟨by rw [HEB.out]; rfl, BW.out⟩
set_option maxHeartbeats 800000 in
theorem rCheckApart_any (A1 A2 : Option Addr) (c1 c2 : Nat) (l : List Pt) (L : List Int) (w : World) (hr1 : Rd w w.heap.size A1 (l.flatMap Pt.cells)) (hr2 : Rd w w.heap.size A2 (ints L)) (hn1 : l.length ≤ 9223372036854775807) (hn2 : L.length ≤ 9223372036854775807) :
    Calls Tryd.prog 48 #[.slice A1 l.length c1, .slice A2 L.length c2] w fun e w' => e = .returned (.int .i64 (apE l L)) ∧ Below w.heap.size w w' := by
  have R1 := Lib.hid hr1
  have R2 := Lib.hid hr2
  have HV := Lib.hid (fun w h => rValidatePipes_any A1 c1 l w h hn1)
  have HS := Lib.hid (fun w h => risList_any A2 c2 L 32 31 w h hn2 (by omega))
  clear hr1 hr2
  by_cases hE : pipesE l = 0
  · by_cases hs : setL 32 L = true
    · have e1 : apE l L = apR (apB l L) := by unfold apE; rw [if_pos hE, if_pos hs]
      have HC := Lib.hid (fun w h g => rapart_any A1 A2 c1 c2 l L w h g hE hs hn2)
      rw [e1]
      rw [hE] at HV
      rw [hs] at HS
      clear hE hs e1
      generalize hq : apB l L = B at *
      cases B
      all_goals
        clear hq
        go_enter Tryd.func48, Tryd.ntmps48
        go_wp2_with fail
        refine (HV.out w R1.out).mono ?_
        rintro e w1 ⟨rfl, hb⟩
        have B1 := Lib.hid hb
        have S1 := Lib.hid ((R1.out.below hb (Nat.le_refl _)).more hb.size)
        have S2 := Lib.hid ((R2.out.below hb (Nat.le_refl _)).more hb.size)
        clear hb
        go_wp2_with fail
        refine (HS.out w1 S2.out).mono ?_
        rintro e w' ⟨rfl, m, rfl⟩
        go_wp2_with fail
        refine (HC.out (w1.drewN m) S1.out S2.out).mono ?_
        rintro e w2 ⟨rfl, hb⟩
        have B2 := Lib.hid hb
        go_wp2_with fail
        go_ret
        exact ⟨rfl, B1.out.trans ((below_drewN (Below.refl _ _) m).trans hb |>.mono B1.out.size)⟩
    · have e1 : apE l L = 1 := by unfold apE; rw [if_pos hE, if_neg hs]
      rw [Bool.not_eq_true] at hs
      rw [e1]
      rw [hE] at HV
      rw [hs] at HS
      clear hE hs e1
      go_enter Tryd.func48, Tryd.ntmps48
      go_wp2_with fail
      refine (HV.out w R1.out).mono ?_
      rintro e w1 ⟨rfl, hb⟩
      have B1 := Lib.hid hb
      have S2 := Lib.hid ((R2.out.below hb (Nat.le_refl _)).more hb.size)
      clear hb
      go_wp2_with fail
      refine (HS.out w1 S2.out).mono ?_
      rintro e w' ⟨rfl, m, rfl⟩
      go_wp2_with fail
      go_ret
      exact ⟨rfl, below_drewN B1.out m⟩
  · have e1 : apE l L = pipesE l := if_neg hE
    rw [e1]
    generalize pipesE l = E at *
    have hb1 : (E == 0) = false := by simpa using hE
    have hb2 : (E != 0) = true := by simpa using hE
    clear hE e1
    go_enter Tryd.func48, Tryd.ntmps48
    go_wp2_with fail
    refine (HV.out w R1.out).mono ?_
    rintro e w1 ⟨rfl, hb⟩
    have B1 := Lib.hid hb
    clear hb
    go_wp2_with fail
    go_ret
    exact ⟨rfl, B1.out⟩
end Go.Proofs.YtnnlbllkckakbaaDoor

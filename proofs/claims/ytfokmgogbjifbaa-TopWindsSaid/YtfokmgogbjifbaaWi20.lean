/-
  The walks of gather (all winds) and CheckApart of package wind, of apart and CheckApart of the reference. No condition.
-/
import Derived.Test.YtfokmgogbjifbaaWb5
import Derived.Test.YtfokmgogbjifbaaWi12
import Derived.Test.YtfokmgogbjifbaaWi16
namespace Go.Proofs.Ytfokmgogbjifbaa
open Go.RowKit
set_option linter.unusedVariables false

set_option maxRecDepth 4000 in
theorem gather32 (A : Option Addr) (c : Nat) (L : List Int) (w : World) (hr : Rd w w.heap.size A (ints L)) (hn : L.length ≤ 9223372036854775807) (hs : setL 32 L = true) :
    Calls Try.prog 24 #[.slice A L.length c] w fun e w' => e = .returned (.int .u32 (gatN L : Nat)) ∧ w = w' := by
  have HR := Lib.hid hr
  have HS := Lib.hid hs
  clear hr hs
  go_enter Try.func24, Try.ntmps24
  go_wp2
  go_loop [3, 8] (fun v i => ∃ k : Nat, k ≤ L.length ∧ i = .int .i64 k ∧ v = .int .u32 (gatN (L.take k) : Nat)) (fun _ i => L.length - (intOf i).toNat)
  case atStart => exact ⟨0, by omega, rfl, by rw [show gatN (L.take 0) = 0 from bitK_zero fun j _ => rfl]; rfl⟩
  case round =>
    obtain ⟨k, hk, rfl, rfl⟩ := hrel
    by_cases hlt : k < L.length
    · obtain ⟨b, o, d, rfl, hd, hc⟩ := HR.out.int k hlt
      have hdl := set_in HS.out hd.out
      obtain ⟨n, rfl⟩ := Int.eq_ofNat_of_zero_le hdl.1
      have HN := Lib.hid (gat32 hd.out (by omega))
      have HSh := Lib.hid (shl32 (k := n) (by omega))
      have hgl : gatN (L.take k) < 4294967296 := bit32 _
      generalize gatN (L.take k) = G at *
      have b0 : (0 : Int) ≤ (n : Int) := by omega
      have b1 : (n : Int) < 32 := by omega
      clear hdl
      go_wp2_with fail
      go_round
      case rel => exact ⟨k + 1, by omega, by go_num, by rw [HSh.out, HN.out]⟩
      case measure => simp [intOf]; omega
    · have hks : k = L.length := by omega
      subst hks
      have hl : gatN (L.take L.length) = gatN L := by rw [List.take_length]
      rw [hl]
      clear hl
      go_wp2_with fail
      go_ret
      exact ⟨rfl, rfl⟩
set_option maxRecDepth 4000 in
set_option maxHeartbeats 800000 in
theorem CheckApart_any (A1 A2 : Option Addr) (c1 c2 : Nat) (l : List Pt) (L : List Int) (w : World) (hr1 : Rd w w.heap.size A1 (l.flatMap Pt.cells)) (hr2 : Rd w w.heap.size A2 (ints L)) (hn1 : l.length ≤ 9223372036854775807) (hn2 : L.length ≤ 9223372036854775807) :
    Calls Try.prog 9 #[.slice A1 l.length c1, .slice A2 L.length c2] w fun e w' => e = .returned (.int .i64 (apE l L)) ∧ Below w.heap.size w w' := by
  have R1 := Lib.hid hr1
  have R2 := Lib.hid hr2
  have HV := Lib.hid (fun w h => ValidatePipes_any A1 c1 l w h hn1)
  have HS := Lib.hid (fun w h => isSet_any A2 c2 L 32 w h hn2)
  clear hr1 hr2
  by_cases hE : pipesE l = 0
  · obtain ⟨h10, hok⟩ := pipesE_zero hE
    have HO := Lib.hid hok
    clear hok
    by_cases hs : setL 32 L = true
    · have e1 : apE l L = apR (apB l L) := by unfold apE; rw [if_pos hE, if_pos hs]
      have HG := Lib.hid (fun w h => gather32 A2 c2 L w h hn2 hs)
      have HP := Lib.hid (fun (a : Pt) (h : okA a = true) w => pointsOf_any a w (arcE_yes h))
      have HC := Lib.hid (fun a w => count_any (apN L a) w (bit32 _))
      simp only [ap_len] at HC
      have HA := Lib.hid (fun a => ap_and L a)
      have HB := Lib.hid (fun k a hx h => apB_bad (l := l) (L := L) (k := k) (a := a) hx h)
      have HBk := Lib.hid (fun h => apB_ok (l := l) (L := L) h)
      rw [e1]
      rw [hE] at HV
      rw [hs] at HS
      clear hE hs e1
      generalize hBB : apB l L = B at *
      clear hBB
      generalize hGG : gatN L = G at *
      have hgl : G < 4294967296 := by rw [← hGG]; exact bit32 _
      clear hGG
      go_enter Try.func9, Try.ntmps9
      go_wp2_with fail
      refine (HV.out w R1.out).mono ?_
      rintro e w1 ⟨rfl, hb⟩
      have B1 := Lib.hid hb
      have S1 := Lib.hid ((R1.out.below hb (Nat.le_refl _)).more hb.size)
      have S2 := Lib.hid ((R2.out.below hb (Nat.le_refl _)).more hb.size)
      clear hb
      go_wp2_with fail
      refine (HS.out w1 S2.out).mono ?_
      rintro e w' ⟨rfl, rfl⟩
      go_wp2_with fail
      refine (HG.out w1 S2.out).mono ?_
      rintro e w' ⟨rfl, rfl⟩
      go_wp2_with fail
      go_loopw [21] (fun i wr => ∃ k : Nat, k ≤ l.length ∧ i = .int .i64 k ∧ (∀ (j : Nat) a, j < k → l[j]? = some a → apC L a ≤ 1) ∧ Below w1.heap.size w1 wr) (fun i _ => l.length - (intOf i).toNat)
      case atStart => exact ⟨0, by omega, rfl, fun j a hj => by omega, Below.refl _ _⟩
      case round =>
        obtain ⟨k, hk, rfl, hall, hb⟩ := hrel
        have HAll := Lib.hid hall
        have BW := Lib.hid hb
        clear hb hall
        by_cases hlt : k < l.length
        · obtain ⟨b, o, a, rfl, hd, c0, c1'⟩ := (S1.out.below BW.out (Nat.le_refl _)).pt k hlt
          have hoka := HO.out a (List.mem_of_getElem? hd.out)
          have HX := Lib.hid (fun w => HP.out a hoka w)
          have HAa := Lib.hid (HA.out a)
          have HCa := Lib.hid (fun w => HC.out a w)
          have hcl : apC L a ≤ 32 := cntK_le _ 32
          obtain ⟨W, hW, d0, d1, hs, hb0⟩ := one_pt wr (.int .i64 a.x) (.int .i64 a.y) 37
          have B0 := Lib.hid (BW.out.trans (hb0.mono BW.out.size))
          clear hb0 hs
          have hal : arcN a < 4294967296 := arcN_lt a
          have HN := Lib.hid (show apC L a ≤ 1 → ∀ (j : Nat) b, j < k + 1 → l[j]? = some b → apC L b ≤ 1 from fun h j b hj hx => by
            rcases Nat.lt_or_ge j k with h1 | h1
            · exact HAll.out j b h1 hx
            · obtain rfl : j = k := by omega
              rw [hd.out] at hx
              injection hx with hx
              rw [← hx]
              exact h)
          have HBd := Lib.hid (fun h => HB.out k a hd.out h)
          generalize hCC : apC L a = C at *
          clear hCC
          generalize arcN a = M at *
          generalize apN L a = Q at *
          obtain ⟨x, y⟩ := a
          unfold Pt.v at HX
          simp only at c0 c1' HX hW d0 d1
          by_cases h1 : 1 < C
          · have e1 : decide ((1 : Int) < (C : Int)) = true := by simp; omega
            have HEB := Lib.hid (HBd.out h1)
            clear h1
            go_wp2_with fail
            clear hW
            go_wp2_with fail
            refine (HX.out W).mono ?_
            rintro e w2 ⟨rfl, hb⟩
            have B2 := Lib.hid (B0.out.trans (hb.mono B0.out.size))
            clear hb
            go_wp2_with fail
            rw [HAa.out]
            refine (HCa.out w2).mono ?_
            rintro e w' ⟨rfl, m, rfl⟩
            go_wp2_with fail
            go_ret
            exact ⟨by rw [HEB.out]; rfl, B1.out.trans ((below_drewN B2.out m).mono B1.out.size)⟩
          · have e1 : decide ((1 : Int) < (C : Int)) = false := by simp; omega
            have HNx := Lib.hid (HN.out (by omega))
            clear h1
            go_wp2_with fail
            clear hW
            go_wp2_with fail
            refine (HX.out W).mono ?_
            rintro e w2 ⟨rfl, hb⟩
            have B2 := Lib.hid (B0.out.trans (hb.mono B0.out.size))
            clear hb
            go_wp2_with fail
            rw [HAa.out]
            refine (HCa.out w2).mono ?_
            rintro e w' ⟨rfl, m, rfl⟩
            go_wp2_with fail
            go_roundw
            case rel => exact ⟨k + 1, by omega, by go_num, HNx.out, below_drewN B2.out m⟩
            case measure => simp [intOf]; omega
        · have hks : k = l.length := by omega
          subst hks
          have HEB := Lib.hid (HBk.out HAll.out)
          go_wp2_with fail
          go_ret
          exact ⟨by rw [HEB.out]; rfl, B1.out.trans (BW.out.mono B1.out.size)⟩
    · have e1 : apE l L = 1 := by unfold apE; rw [if_pos hE, if_neg hs]
      rw [Bool.not_eq_true] at hs
      rw [e1]
      rw [hE] at HV
      rw [hs] at HS
      clear hE hs e1
      go_enter Try.func9, Try.ntmps9
      go_wp2_with fail
      refine (HV.out w R1.out).mono ?_
      rintro e w1 ⟨rfl, hb⟩
      have B1 := Lib.hid hb
      have S2 := Lib.hid ((R2.out.below hb (Nat.le_refl _)).more hb.size)
      clear hb
      go_wp2_with fail
      refine (HS.out w1 S2.out).mono ?_
      rintro e w' ⟨rfl, rfl⟩
      go_wp2_with fail
      go_ret
      exact ⟨rfl, B1.out⟩
  · have e1 : apE l L = pipesE l := if_neg hE
    rw [e1]
    generalize pipesE l = E at *
    have hb1 : (E == 0) = false := by simpa using hE
    have hb2 : (E != 0) = true := by simpa using hE
    clear hE e1
    go_enter Try.func9, Try.ntmps9
    go_wp2_with fail
    refine (HV.out w R1.out).mono ?_
    rintro e w1 ⟨rfl, hb⟩
    have B1 := Lib.hid hb
    clear hb
    go_wp2_with fail
    go_ret
    exact ⟨rfl, B1.out⟩

/-! ### The document's side -/
end Go.Proofs.Ytfokmgogbjifbaa

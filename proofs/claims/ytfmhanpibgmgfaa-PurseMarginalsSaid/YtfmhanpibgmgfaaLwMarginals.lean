/-
  The walk of the law PurseMarginals: it returns true. Conditions: the lists can be read.
-/
import Derived.Test.YtfmhanpibgmgfaaPuk
import Derived.Test.YtfmhanpibgmgfaaPr3
namespace Go.Proofs.Ytfmhanpibgmgfaa
open Go.RowKit
set_option linter.unusedVariables false

theorem st_le {v o : List Int} (h : upB 1000 v = true) : ∀ k i, -2000 ≤ stF v o k i ∧ stF v o k i ≤ 2000
  | 0, i => by show -2000 ≤ (0 : Int) ∧ (0 : Int) ≤ 2000; omega
  | k + 1, i => by
    show -2000 ≤ (if i = plA o k then nth v (msk o (k + 1)) - nth v (msk o k) else stF v o k i) ∧ (if i = plA o k then nth v (msk o (k + 1)) - nth v (msk o k) else stF v o k i) ≤ 2000
    have h1 := upB_nth h (by omega) (msk o (k + 1))
    have h2 := upB_nth h (by omega) (msk o k)
    have h3 := st_le (o := o) h k i
    split <;> omega
theorem mg_len (v o : List Int) : (mgL v o).length = mgLen v o := by
  unfold mgL mgLen
  split
  · rw [rowF_len]
  · rfl
theorem mg_small (v o : List Int) : mgLen v o ≤ 1000000 := by
  unfold mgLen
  split
  · rename_i h
    obtain ⟨n, pv, _, od, _⟩ := orE_ok h
    have := pv.five
    rw [od.len]
    omega
  · omega
set_option maxRecDepth 8000 in
set_option maxHeartbeats 8000000 in
theorem PurseMarginals_walk (Av : Option Addr) (v : List Int) (cv : Nat) (A : Option Addr) (o : List Int) (c : Nat) (hl : v.length ≤ 9223372036854775807) (hpl : o.length ≤ 9223372036854775807) (w : World) (hrv : Rd w w.heap.size Av (ints v)) (hr : Rd w w.heap.size A (ints o)) :
    Calls Try.prog 3 #[.slice Av v.length cv, .slice A o.length c] w fun e w' => e = .returned (.bool true) ∧ Below w.heap.size w w' := by
  have HLo := Lib.hid (long_any Av A v.length cv o.length c hl hpl w)
  have HKn := Lib.hid (fun w => known_any w)
  have HPl := Lib.hid (Players_any Av v cv hl w hrv)
  have HPr := Lib.hid (fun w h => rPlayers_any Av v cv hl w h)
  have HMa := Lib.hid (fun w h h' => Marginal_any Av v cv A o c hl hpl w h h')
  have HMr := Lib.hid (fun w h h' => rMarginal_any Av v cv A o c hl hpl w h h')
  have HV := Lib.hid (fun w h => Validate_any Av v cv hl w h)
  have HVr := Lib.hid (fun w h => rValidate_any Av v cv hl w h)
  have HSa := Lib.hid (fun A A' c c' w h h' => SameInts_same A A' (mgLen v o) c c' (mgL v o) (mg_len v o) (mg_small v o) w h h')
  have HRv := Lib.hid hrv
  have HR := Lib.hid hr
  generalize hpls : plsV v = pls at *
  generalize hlo : (decide (200 < v.length) || decide (200 < o.length)) = lo at *
  obtain ⟨nv, hnv⟩ : ∃ nv, v.length = nv := ⟨_, rfl⟩
  have HNv := Lib.hid hnv
  rw [hnv] at HLo HPl HPr HMa HMr HV HVr hl ⊢
  generalize o.length = np at *
  clear hrv hr hpls hlo
  cases lo
  case true =>
    go_enter Try.func3, Try.ntmps3
    go_wp2_with fail
    refine HLo.out.mono ?_
    rintro e w' ⟨rfl, rfl⟩
    go_wp2_with fail
    refine (HKn.out _).mono ?_
    rintro e w' ⟨rfl, hb⟩
    have HB2 := Lib.hid hb
    clear hb
    go_wp2_with fail
    go_ret
    exact ⟨rfl, HB2.out⟩
  case false =>
    obtain ⟨V, hV⟩ : ∃ V, vdE v = V := ⟨_, rfl⟩
    rw [hV] at HPl HPr HV HVr
    obtain ⟨OE, hOE⟩ : ∃ OE, orE v o = OE := ⟨_, rfl⟩
    have HOE := Lib.hid hOE
    rw [hOE] at HMa HMr
    obtain ⟨ml, hml⟩ : ∃ ml, mgLen v o = ml := ⟨_, rfl⟩
    have HML := Lib.hid hml
    rw [hml] at HMa HMr HSa
    have e1 : (V != V) = false := by simp
    have e2 : (OE != OE) = false := by simp
    have e3 : (pls != pls) = false := by simp
    obtain ⟨s, hs⟩ : ∃ s, w.heap.size = s := ⟨_, rfl⟩
    have HS := Lib.hid hs
    clear hV hml hs hOE
    go_enter Try.func3, Try.ntmps3
    go_wp2_with fail
    refine HLo.out.mono ?_
    rintro e w' ⟨rfl, rfl⟩
    go_wp2_with fail
    refine HPl.out.mono ?_
    rintro e w1 ⟨rfl, hb⟩
    have B1 := Lib.hid hb
    have V1 := Lib.hid ((HRv.out.below hb (Nat.le_refl _)).more hb.size)
    have O1 := Lib.hid ((HR.out.below hb (Nat.le_refl _)).more hb.size)
    clear hb
    go_wp2_with fail
    refine (HPr.out w1 V1.out).mono ?_
    rintro e w2 ⟨rfl, rfl⟩
    go_wp2_with fail
    refine (HMa.out w1 V1.out O1.out).mono ?_
    rintro e w3 ⟨A3, c3, rfl, hrd, hb⟩
    have B3 := Lib.hid (B1.out.trans (hb.mono B1.out.size))
    have V3 := Lib.hid ((V1.out.below hb (Nat.le_refl _)).more hb.size)
    have O3 := Lib.hid ((O1.out.below hb (Nat.le_refl _)).more hb.size)
    have R3 := Lib.hid hrd
    clear hb hrd
    go_wp2_with fail
    refine (HMr.out w3 V3.out O3.out).mono ?_
    rintro e w4 ⟨A4, c4, rfl, hrd, hb⟩
    have B4 := Lib.hid (B3.out.trans (hb.mono B3.out.size))
    have V4 := Lib.hid ((V3.out.below hb (Nat.le_refl _)).more hb.size)
    have R34 := Lib.hid ((R3.out.below hb (Nat.le_refl _)).more hb.size)
    have R4 := Lib.hid hrd
    clear hb hrd
    go_wp2_with fail
    refine (HV.out w4 V4.out).mono ?_
    rintro e w5 ⟨rfl, hb⟩
    have B5 := Lib.hid (B4.out.trans (hb.mono B4.out.size))
    have V5 := Lib.hid ((V4.out.below hb (Nat.le_refl _)).more hb.size)
    have R35 := Lib.hid ((R34.out.below hb (Nat.le_refl _)).more hb.size)
    have R5 := Lib.hid ((R4.out.below hb (Nat.le_refl _)).more hb.size)
    clear hb
    go_wp2_with fail
    refine (HVr.out w5 V5.out).mono ?_
    rintro e w6 ⟨rfl, rfl⟩
    go_wp2_with fail
    refine (HSa.out A3 A4 c3 c4 w5 R35.out R5.out).mono ?_
    rintro e w6 ⟨rfl, m6, hw6⟩
    have B6 := Lib.hid (show Below w.heap.size w w6 by rw [hw6]; exact bdN' B5.out m6)
    have V6 := Lib.hid (show Rd w6 w6.heap.size Av (ints v) by rw [hw6]; exact V5.out)
    have R6 := Lib.hid (show Rd w6 w6.heap.size A3 (ints (mgL v o)) by rw [hw6]; exact R35.out)
    clear hw6
    by_cases ho : OE = 0
    case neg =>
      have e5 : (OE != 0) = true := by rw [bne_iff_ne]; exact ho
      clear ho
      go_wp2_with fail
      refine (HKn.out _).mono ?_
      rintro e w7 ⟨rfl, hb⟩
      have B7 := Lib.hid (B6.out.trans (hb.mono B6.out.size))
      clear hb
      go_wp2_with fail
      go_ret
      exact ⟨rfl, B7.out⟩
    case pos =>
      obtain ⟨n, pv, hup, od, hv⟩ := orE_ok (HOE.out.trans ho)
      have hml2 : ml = n := by rw [← HML.out]; unfold mgLen; rw [if_pos (HOE.out.trans ho), od.len]
      have hmg : mgL v o = rowF (stF v o n) n := by unfold mgL; rw [if_pos (HOE.out.trans ho), od.len]
      have e5 : (OE != 0) = false := by rw [ho]; rfl
      subst hml2
      rw [hmg] at R6
      have hn5 := pv.five
      have hsum := st_sum (v := v) od ml (Nat.le_refl _)
      have HLast := Lib.hid (show sI (stF v o ml) ml = nth v (nv - 1) by
        rw [hsum, msk_all od, pv.zero, ← HNv.out, pv.len]
        omega)
      have HAbs := Lib.hid (fun k => sI_abs (f := stF v o ml) (B := 2000) (n := k) fun i _ => st_le hup ml i)
      have hnv1 : 1 ≤ nv := by rw [← HNv.out, pv.len]; exact Nat.two_pow_pos ml
      have hnv32 : nv ≤ 32 := by rw [← HNv.out]; exact pv.le
      generalize stF v o ml = F at *
      clear ho pv hup od hv hmg hsum
      go_wp2_with fail
      go_loop [13, 14] (fun u z => ∃ k : Nat, k ≤ ml ∧ u = .int .i64 (sI F k) ∧ z = .int .i64 (k : Int)) (fun _ z => ml - (intOf z).toNat)
      case atStart => exact ⟨0, by omega, rfl, rfl⟩
      case round =>
        obtain ⟨k, hk, rfl, rfl⟩ := hrel
        by_cases hlt : k < ml
        · obtain ⟨b2, o2, x, hA2, hx, hc⟩ := R6.out.int k (by rw [rowF_len]; exact hlt)
          subst hA2
          have b0 : (0 : Int) ≤ (k : Int) := by omega
          have b1 : (k : Int) < (ml : Int) := by omega
          have hs1 := HAbs.out (k + 1)
          have hxF : x = F k := Option.some.inj (hx.out.symm.trans (rowF_get hlt))
          have HNx := Lib.hid (show sI F (k + 1) = sI F k + x by rw [hxF]; rfl)
          rw [HNx.out] at hs1
          have hk5 : ((k + 1 : Nat) : Int) ≤ 5 := by omega
          have HQ := Lib.hid (show wrap64 (sI F k + x) = sI F k + x from wrap_mid (by unfold Mid; omega))
          have hq := HQ.out
          clear hx hs1 hk5 hxF
          go_wp2_with fail
          go_round
          case rel => exact ⟨k + 1, by omega, by rw [HNx.out] <;> first | rfl | (rw [HQ.out] <;> rfl), by go_num⟩
          case measure => simp [intOf]; omega
        · have hkn : k = ml := by omega
          subst hkn
          obtain ⟨b3, o3, d, hA3, hd, hc⟩ := V6.out.int (nv - 1) (by rw [HNv.out]; omega)
          subst hA3
          have hD := nth_get hd.out
          have HL2 := Lib.hid (show sI F k = d by rw [HLast.out, hD])
          obtain ⟨v1, hv1⟩ : ∃ v1, nv - 1 = v1 := ⟨_, rfl⟩
          rw [hv1] at hc
          have b0 : (0 : Int) ≤ (nv : Int) - 1 := by omega
          have b1 : (nv : Int) - 1 < (nv : Int) := by omega
          have ht : ((nv : Int) - 1).toNat = v1 := by omega
          have q2 : wrap64 ((nv : Int) - 1) = (nv : Int) - 1 := wrap_mid (by unfold Mid; omega)
          have e9 : (sI F k == d) = true := by rw [HL2.out]; simp
          clear hlt hd hD hv1
          go_wp2_with fail
          refine (HKn.out _).mono ?_
          rintro e w7 ⟨rfl, hb⟩
          have B7 := Lib.hid (B6.out.trans (hb.mono B6.out.size))
          clear hb
          go_wp2_with fail
          go_ret
          exact ⟨rfl, B7.out⟩
end Go.Proofs.Ytfmhanpibgmgfaa

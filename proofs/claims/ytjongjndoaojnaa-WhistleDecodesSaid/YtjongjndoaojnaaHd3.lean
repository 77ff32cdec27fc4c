/-
  Heard and Decode of the reference. Conditions: the code and the text can be read.
-/
import Derived.Test.YtjongjndoaojnaaHd2
import Derived.Test.YtjongjndoaojnaaDc1
namespace Go.Proofs.Ytjongjndoaojnaa
open Go.RowKit
set_option linter.unusedVariables false

set_option maxRecDepth 8000 in
set_option maxHeartbeats 1000000 in
theorem rHeard_any (A : Option Addr) (c : Nat) (C : List ByteArray) (t : ByteArray) (w : World) (hr : Rd w w.heap.size A (txts C)) (hs : Sz C) (hl : C.length ≤ 9223372036854775807) (ht : t.size ≤ 9223372036854775807) :
    Calls Try.prog 23 #[.slice A C.length c, .string t] w fun e w' => e = .returned (.tuple #[.int .i64 (hdN C t : Nat), .int .i64 (txE C t)]) ∧ Below w.heap.size w w' := by
  have HCK := Lib.hid (textOK_any A c C t w hr hs hl ht)
  have HR := Lib.hid hr
  clear hr hs
  by_cases hz : txE C t = 0
  · obtain ⟨hv, ht60, _⟩ := txE_zero hz
    have HV := Lib.hid (vE_ok hv)
    have HD := Lib.hid (show hdN C t = ways C (bl t) from if_pos hz)
    have HE := Lib.hid hz
    rw [hz] at HCK
    clear hz hv
    go_enter Try.func23, Try.ntmps23
    go_wp2_with fail
    refine HCK.out.mono ?_
    rintro e w1 ⟨rfl, m, hm⟩
    have B1 := Lib.hid (show Below w.heap.size w w1 by rw [hm]; exact bdN (Below.refl _ _) m)
    have R1 := Lib.hid (HR.out.go (B0 := 0) B1.out)
    clear hm
    go_wp2_with fail
    refine (rheard_any A c C t w1 R1.out HV.out ht60).mono ?_
    rintro e w2 ⟨mb, rfl, hF, hmb, hb⟩
    have B2 := Lib.hid (B1.out.trans (hb.mono B1.out.size))
    have c0 : w2.cell? ⟨mb, 0, none⟩ = some (.int .i64 (ways C (bl t) : Nat)) := by rw [blk_cell hF]; exact rowZ_at (Nat.succ_pos _)
    clear hF hmb hb
    go_wp2_with fail
    go_ret2
    exact ⟨by rw [HD.out, HE.out]; rfl, B2.out⟩
  · have e1 : (txE C t != 0) = true := by simpa using hz
    have HD := Lib.hid (show hdN C t = 0 from if_neg hz)
    clear hz
    go_enter Try.func23, Try.ntmps23
    go_wp2_with fail
    refine HCK.out.mono ?_
    rintro e w1 ⟨rfl, m, rfl⟩
    go_wp2_with fail
    go_ret2
    exact ⟨by rw [HD.out]; rfl, bdN (Below.refl _ _) m⟩
def dcL (C : List ByteArray) (t : ByteArray) : List Int := if txE C t = 0 then dcI C (bl t) else []
def dcB (C : List ByteArray) (t : ByteArray) : Bool := decide (txE C t = 0 ∧ ways C (bl t) ≠ 0)
def DecPost (C : List ByteArray) (t : ByteArray) (w : World) (e : Ending) (w' : World) : Prop :=
  ∃ A' c', e = .returned (.tuple #[.slice A' (dcL C t).length c', .bool (dcB C t), .int .i64 (txE C t)]) ∧ Rd w' w'.heap.size A' (ints (dcL C t)) ∧ (dcL C t).length ≤ 60 ∧ Below w.heap.size w w'
/-- What has been found of a message. -/
structure DcS (C : List ByteArray) (t : ByteArray) (P : List Int) (at_ : Nat) : Prop where
  le : at_ ≤ t.size
  eq : dcI C (bl t) = P ++ dcI C ((bl t).drop at_)
  some_ : ways C ((bl t).drop at_) ≠ 0
  len : P.length ≤ at_
theorem DcS.step {C : List ByteArray} {t : ByteArray} {P : List Int} {at_ i : Nat} {s : ByteArray} (h : DcS C t P at_) (hC : ∀ s ∈ C, 1 ≤ s.size) (hs : C[i]? = some s) (hf : fdx C ((bl t).drop at_) = some i) : DcS C t (P ++ [(i : Int)]) (at_ + s.size) := by
  obtain ⟨s', hs', hfit, _⟩ := fdx_fit hf
  rw [hs] at hs'
  cases hs'
  obtain ⟨hp, hw⟩ := fit_iff.1 hfit
  have hle := hp.length_le
  rw [List.length_drop, bl_len, bl_len] at hle
  have h1 := hC s (List.mem_of_getElem? hs)
  have := h.len
  have := h.le
  refine ⟨by omega, ?_, by rw [List.drop_drop] at hw; exact hw, by simp; omega⟩
  rw [h.eq, dcI_cons hC hf hs, List.drop_drop]
  simp
theorem DcS.stop {C : List ByteArray} {t : ByteArray} {P : List Int} (h : DcS C t P t.size) : dcI C (bl t) = P := by
  rw [h.eq, ← bl_len t, List.drop_length]
  exact List.append_nil _
theorem Rd.cellS {w : World} {B b o k : Nat} {C : List ByteArray} {s : ByteArray} (R : Rd w B (some ⟨b, o, none⟩) (txts C)) (hs : C[k]? = some s) : w.cell? ⟨b, o + k, none⟩ = some (.string s) := by
  obtain ⟨b2, o2, s2, hA, hd, hc⟩ := R.txt k (List.getElem?_eq_some_iff.1 hs).1
  injection hA with hA
  injection hA with e1 e2
  subst e1 e2
  rw [hs] at hd
  cases hd
  exact hc
theorem ints_app (P : List Int) (x : Int) : ints (P ++ [x]) = ints P ++ ints [x] := by simp [ints]
set_option maxRecDepth 8000 in
set_option maxHeartbeats 2000000 in
theorem rDecode_any (A : Option Addr) (c : Nat) (C : List ByteArray) (t : ByteArray) (w : World) (hr : Rd w w.heap.size A (txts C)) (hs : Sz C) (hl : C.length ≤ 9223372036854775807) (ht : t.size ≤ 9223372036854775807) :
    Calls Try.prog 25 #[.slice A C.length c, .string t] w fun e w' => DecPost C t w e w' := by
  have HCK := Lib.hid (textOK_any A c C t w hr hs hl ht)
  have HR := Lib.hid hr
  clear hr hs
  by_cases hz : txE C t = 0
  · obtain ⟨hv, ht60, _⟩ := txE_zero hz
    have HV := Lib.hid (vE_ok hv)
    have HE := Lib.hid hz
    have HC := Lib.hid (show ∀ s ∈ C, 1 ≤ s.size from fun s hs => (sgB_iff.1 (HV.out.sg s hs)).1)
    have hC12 := HV.out.le
    have HL := Lib.hid (show dcL C t = dcI C (bl t) from if_pos hz)
    have HB := Lib.hid (show dcB C t = decide (ways C (bl t) ≠ 0) by unfold dcB; simp [hz])
    have HDN := Lib.hid (bl_len t)
    rw [hz] at HCK
    clear hz hv
    go_enter Try.func25, Try.ntmps25
    go_wp2_with fail
    refine HCK.out.mono ?_
    rintro e w1 ⟨rfl, m, hm⟩
    have B1 := Lib.hid (show Below w.heap.size w w1 by rw [hm]; exact bdN (Below.refl _ _) m)
    have R1 := Lib.hid (HR.out.go (B0 := 0) B1.out)
    clear hm
    go_wp2_with fail
    refine (rheard_any A c C t w1 R1.out HV.out ht60).mono ?_
    rintro e W ⟨mb, rfl, hF, hmb, hb⟩
    have B2 := Lib.hid (B1.out.trans (hb.mono B1.out.size))
    have R2 := Lib.hid (HR.out.go (B0 := 0) B2.out)
    have F0 := Lib.hid hF
    have HMW := Lib.hid (show mb < W.heap.size from (Array.getElem?_eq_some_iff.1 hF).1)
    have c0 : W.cell? ⟨mb, 0, none⟩ = some (.int .i64 (ways C (bl t) : Nat)) := by rw [blk_cell hF]; exact rowZ_at (Nat.succ_pos _)
    clear hF hmb hb
    by_cases hw : ways C (bl t) = 0
    · have e1 : ((ways C (bl t) : Nat) == 0) = true := by simpa using hw
      have HN := Lib.hid (show dcI C (bl t) = [] by
        unfold dcI
        by_cases hu : bl t = []
        · rw [hu]; rfl
        · rw [dc_none HC.out hu hw]; rfl)
      rw [hw] at c0
      have HW := Lib.hid (show dcB C t = false by rw [HB.out]; simp [hw])
      clear hw e1
      go_wp2_with fail
      go_ret3
      exact ⟨none, 0, by rw [HL.out, HN.out, HW.out, HE.out]; rfl, by rw [HL.out, HN.out]; exact Rd.nil_, by rw [HL.out, HN.out]; exact Nat.zero_le _, B2.out⟩
    · have HW := Lib.hid (show dcB C t = true by rw [HB.out]; simp [hw])
      have S0 := Lib.hid (show DcS C t [] 0 from ⟨Nat.zero_le _, rfl, hw, Nat.le_refl _⟩)
      have e1 : (((ways C (bl t) : Nat) : Int) == 0) = false := by simpa using hw
      have e2 : ((ways C (bl t) : Nat) == 0) = false := by simpa using hw
      clear hw
      go_wp2_with fail
      clear e1 e2 c0
      go_loopw [9, 10] (fun v av wr => ∃ (P : List Int) (A' : Option Addr) (c' : Nat) (n : Nat), v = .slice A' P.length c' ∧ av = .int .i64 n ∧ wr.ownsRow W.heap.size 3 1 (.slice A' P.length c') P.length (ints P) ∧ Below W.heap.size W wr ∧ DcS C t P n) (fun _ av _ => t.size - (intOf av).toNat)
      case atStart => exact ⟨[], none, 0, 0, rfl, rfl, ⟨rfl, .inl ⟨rfl, rfl⟩⟩, Below.refl _ _, S0.out⟩
      case round =>
        obtain ⟨P, A', c', n, rfl, rfl, h1, h2, h3⟩ := hrel
        have OW := Lib.hid h1
        have B3 := Lib.hid h2
        have DS := Lib.hid h3
        clear h1 h2 h3
        have hn60 := DS.out.le
        by_cases hlt : n < t.size
        · obtain ⟨i, hi⟩ := fdx_of_ways HC.out (u := (bl t).drop n) (by intro e; have := congrArg List.length e; rw [List.length_drop, HDN.out] at this; simp at this; omega) DS.out.some_
          obtain ⟨si, hsi, hfi, hbi⟩ := fdx_fit hi
          have HFI := Lib.hid hfi
          have HBI := Lib.hid hbi
          have HSI := Lib.hid hsi
          have HNS := Lib.hid (DS.out.step HC.out hsi hi)
          have hiC : i < C.length := (List.getElem?_eq_some_iff.1 hsi).1
          clear hi hfi hbi hsi
          go_wp2_with fail
          obtain ⟨wo, rfl⟩ : ∃ wo : World, wo = wr := ⟨_, rfl⟩
          go_loopw [11] (fun iv wr2 => ∃ (k m : Nat), k ≤ i ∧ iv = .int .i64 k ∧ wr2 = wo.drewN m) (fun iv _ => i - (intOf iv).toNat)
          case atStart => exact ⟨0, 0, Nat.zero_le _, rfl, rfl⟩
          case round =>
            obtain ⟨k, m, hk, rfl, hww⟩ := hrel
            have HWW := Lib.hid hww
            have FB := Lib.hid (show Below W.heap.size W wr by rw [hww]; exact bdN B3.out m)
            clear hww
            have hkC : k < C.length := by omega
            have R4 := Lib.hid (R2.out.below FB.out (Nat.le_refl _))
            obtain ⟨b2, o2, s, hA2, hd, hc2⟩ := R4.out.txt k hkC
            have HA2 := Lib.hid hA2
            subst hA2
            have b0 : (0 : Int) ≤ (k : Int) := by omega
            have b1 : (k : Int) < (C.length : Int) := by omega
            have b0' : (0 : Int) ≤ (n : Int) := by omega
            have b1' : (n : Int) ≤ (t.size : Int) := by omega
            have HPX := Lib.hid (begins_any (drp t n) s)
            have hpe : pfx s (drp t n) = decide (bl s <+: (bl t).drop n) := by rw [pfx_bl, bl_drp]
            by_cases hki : k = i
            · subst hki
              have hss : s = si := by have h1 := HSI.out; rw [hd.out] at h1; exact Option.some.inj h1
              have hfs := fit_iff.1 HFI.out
              rw [← hss] at hfs
              have hp : pfx s (drp t n) = true := by rw [hpe]; exact decide_eq_true hfs.1
              have hle := hfs.1.length_le
              rw [List.length_drop, HDN.out, bl_len] at hle
              have hs1 := HC.out s (List.mem_of_getElem? hd.out)
              have c1 : wr.cell? ⟨mb, n + s.size, none⟩ = some (.int .i64 (ways C ((bl t).drop (n + s.size)) : Nat)) := (FB.out.cell (p := ⟨mb, n + s.size, none⟩) HMW.out).trans (by
                rw [blk_cell F0.out, rowZ_at (by omega)]
                unfold tab
                rw [if_pos (Nat.zero_le _)])
              have hw2 : ways C ((bl t).drop (n + s.size)) ≠ 0 := by have := hfs.2; rw [List.drop_drop] at this; exact this
              have HNS2 := Lib.hid HNS.out
              rw [← hss] at HNS2
              obtain ⟨wy, hwy⟩ : ∃ x, x = ways C ((bl t).drop (n + s.size)) := ⟨_, rfl⟩
              rw [← hwy] at c1 hw2
              have e1 : ((wy : Int) == 0) = false := by simpa using hw2
              have e2 : (wy == 0) = false := by simpa using hw2
              have b4 : ((n : Int) + (s.size : Int)) < (t.size : Int) + 1 := by omega
              have b5 : (0 : Int) ≤ (n : Int) + (s.size : Int) := by omega
              have b6 : ((n : Int) + (s.size : Int)).toNat = n + s.size := by omega
              rw [hp] at HPX
              rw [show drp t n = t.extract n t.size from rfl] at HPX
              clear hp hpe hwy hfs hss hw2
              go_wp2_with fail
              go_quiet ((go_at_call 65; first | exact qs (HPX.out _) | exact qs0 (HPX.out _)))
              generalize hwq : wr.drewN nq = wq
              have OW5 := Lib.hid (show wq.ownsRow W.heap.size 3 1 (.slice A' P.length c') P.length (ints P) by rw [← hwq, HWW.out]; exact OW.out)
              have B5 := Lib.hid (show Below W.heap.size W wq by rw [← hwq]; exact bdN FB.out nq)
              have HPL := Lib.hid (show (P ++ [(k : Int)]).length = P.length + 1 by simp)
              have hPle := DS.out.len
              clear hwq e1 e2
              go_wp2_with ((with_reducible show wpList _ _ _ (⟨some 56, _, _, _, _, _⟩ :: _) _ _); refine app eInt rfl (.tmp 53) (.tmp 55) rfl rfl (OW5.out.alloc _) (B5.out.alloc B5.out.size (.cells #[.int .i64 k] 3)) (size_alloc' B5.out.size _) rfl (Rd.one wq (.int .i64 k) 3 (Nat.lt_succ_self _)) (by simp) (ints_one [(k : Int)]) (P ++ [(k : Int)]).length (by simp) (by rw [HPL.out]; omega) ?_; intro A3 c3 w3 o3 b3' _ _; have O3 := Lib.hid (show w3.ownsRow W.heap.size 3 1 (.slice A3 (P ++ [(k : Int)]).length c3) (P ++ [(k : Int)]).length (ints (P ++ [(k : Int)])) by rw [ints_app]; exact o3); have BB3 := Lib.hid b3'; have c7 := (R2.out.below BB3.out (Nat.le_refl _)).cellS hd.out; clear o3 b3')
              go_roundw
              case rel => exact ⟨P ++ [(k : Int)], A3, c3, n + s.size, by rw [HPL.out], by go_num, O3.out, BB3.out, HNS2.out⟩
              case measure => simp [intOf]; omega
            · have hnf := HBI.out k s (by omega) hd.out
              have hki2 : k + 1 ≤ i := by omega
              cases hp : pfx s (drp t n)
              · rw [hp] at HPX
                rw [show drp t n = t.extract n t.size from rfl] at HPX
                clear hp hpe hnf
                go_wp2_with fail
                go_quiet ((go_at_call 65; first | exact qs (HPX.out _) | exact qs0 (HPX.out _)))
                go_wp2_with fail
                go_roundw
                case rel => exact ⟨k + 1, _, hki2, by go_num, by rw [HWW.out]; exact World.drewN_drewN _ _ _⟩
                case measure => simp [intOf]; omega
              · rw [hp] at hpe
                have hpp := of_decide_eq_true hpe.symm
                have hle := hpp.length_le
                rw [List.length_drop, HDN.out, bl_len] at hle
                have hs1 := HC.out s (List.mem_of_getElem? hd.out)
                have hw0 : ways C ((bl t).drop (n + s.size)) = 0 := by
                  apply Classical.byContradiction
                  intro hw
                  rw [← List.drop_drop] at hw
                  rw [fit_iff.2 ⟨hpp, hw⟩] at hnf
                  cases hnf
                have c1 : wr.cell? ⟨mb, n + s.size, none⟩ = some (.int .i64 0) := (FB.out.cell (p := ⟨mb, n + s.size, none⟩) HMW.out).trans (by
                  rw [blk_cell F0.out, rowZ_at (by omega)]
                  unfold tab
                  rw [if_pos (Nat.zero_le _), hw0]
                  rfl)
                have b4 : ((n : Int) + (s.size : Int)) < (t.size : Int) + 1 := by omega
                have b5 : (0 : Int) ≤ (n : Int) + (s.size : Int) := by omega
                have b6 : ((n : Int) + (s.size : Int)).toNat = n + s.size := by omega
                rw [hp] at HPX
                rw [show drp t n = t.extract n t.size from rfl] at HPX
                clear hp hpe hnf hpp hw0
                go_wp2_with fail
                go_quiet ((go_at_call 65; first | exact qs (HPX.out _) | exact qs0 (HPX.out _)))
                go_wp2_with fail
                go_roundw
                case rel => exact ⟨k + 1, _, hki2, by go_num, by rw [HWW.out]; exact World.drewN_drewN _ _ _⟩
                case measure => simp [intOf]; omega
        · have hns : n = t.size := by omega
          have HST := Lib.hid (DcS.stop (hns ▸ DS.out))
          have HPN := DS.out.len
          go_wp2_with fail
          go_ret3
          exact ⟨A', c', by rw [HL.out, HST.out, HW.out, HE.out]; rfl, by rw [HL.out, HST.out]; exact Rd.of_own OW.out, by rw [HL.out, HST.out]; omega, B2.out.trans (B3.out.mono B2.out.size)⟩
  · have e1 : (txE C t != 0) = true := by simpa using hz
    have HL := Lib.hid (show dcL C t = [] from if_neg hz)
    have HB := Lib.hid (show dcB C t = false by unfold dcB; simp [hz])
    clear hz
    go_enter Try.func25, Try.ntmps25
    go_wp2_with fail
    refine HCK.out.mono ?_
    rintro e w1 ⟨rfl, m, rfl⟩
    go_wp2_with fail
    go_ret3
    exact ⟨none, 0, by rw [HL.out, HB.out]; rfl, by rw [HL.out]; exact Rd.nil_, by rw [HL.out]; exact Nat.zero_le _, bdN (Below.refl _ _) m⟩
end Go.Proofs.Ytjongjndoaojnaa

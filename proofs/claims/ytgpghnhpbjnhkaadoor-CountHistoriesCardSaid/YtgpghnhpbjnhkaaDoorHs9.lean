/-
  Numbers of each day: the walks of First and Alive of the reference. Condition: the list can be read.
-/
import Derived.Test.YtgpghnhpbjnhkaaDoorHs8
namespace Go.Proofs.YtgpghnhpbjnhkaaDoor
open Go.RowKit
set_option linter.unusedVariables false

theorem bdH {B : Nat} {w w' : World} (h : Below B w w') (n : Nat) : Below B w (w'.drewN n) := ⟨h.os, h.tape, h.output, h.size, h.block⟩
def nwR (s : ByteArray) (d : Nat) : Bool := inB s d (d + 1) && !inB s 0 d
def avR (n : Nat) (s : ByteArray) (d : Nat) : Bool := inB s 0 (d + 1) && inB s d n
theorem rowZ_snoc (F : Nat → Nat) (j : Nat) : ints (rowZ F (j + 1)) = ints (rowZ F j) ++ [.int .i64 (F j : Int)] := by
  unfold rowZ ints
  rw [List.range_succ]
  simp
set_option maxRecDepth 8000 in
set_option maxHeartbeats 4000000 in
theorem rFirst_any (A : Option Addr) (cp : Nat) (C : List ByteArray) (hs : Sz C) (hl : C.length ≤ 9223372036854775807) (w : World) (hr : Rd w w.heap.size A (txts C)) :
    Calls Tryd.prog 10 #[.slice A C.length cp] w fun e w' => DayPost nwR C w e w' := by
  have HV := Lib.hid (rValidateHistories_any A cp C hs hl w hr)
  have HDY := Lib.hid (fun w h => days_any A cp C hs hl w h)
  have HR := Lib.hid hr
  unfold DayPost
  clear hr hs
  by_cases hv : vhE C = 0
  · rw [hv] at HV
    have HE := Lib.hid hv
    obtain ⟨h60, hall⟩ := vh_bird hv
    have hD := D0_le hv
    have HA := Lib.hid hall
    obtain ⟨n, hn⟩ : ∃ n, n = D0 C := ⟨_, rfl⟩
    have HL := Lib.hid (show dayL nwR C = rowZ (fun d => cnt (nwR · d) C C.length) n by rw [hn]; exact if_pos hv)
    have HCL := Lib.hid (fun d => show cnt (nwR · d) C C.length ≤ 60 from Nat.le_trans (cnt_le _ _ _) h60)
    rw [← hn] at hD HDY HA
    obtain ⟨F, hF⟩ : ∃ F : Nat → Nat, F = fun d => cnt (nwR · d) C C.length := ⟨_, rfl⟩
    rw [← hF] at HL
    have HF := Lib.hid (fun d => show F d = cnt (nwR · d) C C.length by rw [hF])
    have HT := Lib.hid (fun w1 (h : Rd w1 w.heap.size A (txts C)) k hk => h.txt k hk)
    obtain ⟨m, hm⟩ : ∃ m, C.length = m := ⟨_, rfl⟩
    have HMC := Lib.hid hm
    rw [hm] at HT HV HDY h60 ⊢
    clear hv hall hn hF hm
    go_enter Tryd.func10, Tryd.ntmps10
    go_wp2_with fail
    refine HV.out.mono ?_
    rintro e w1 ⟨rfl, m0, hw1⟩
    have R1 := Lib.hid (show Rd w1 w.heap.size A (txts C) by rw [hw1]; exact HR.out.drewN m0)
    have B1 := Lib.hid (show Below w.heap.size w w1 by rw [hw1]; exact bdH (Below.refl _ _) m0)
    clear hw1
    go_wp2_with fail
    go_loopw [5, 6] (fun v i wr => ∃ (j : Nat) (A' : Option Addr) (c' : Nat), j ≤ n ∧ v = .slice A' j c' ∧ i = .int .i64 j ∧ wr.ownsRow w1.heap.size 3 1 (.slice A' j c') j (ints (rowZ F j)) ∧ Below w1.heap.size w1 wr) (fun _ i _ => n - (intOf i).toNat)
    case atStart => exact ⟨0, none, 0, by omega, rfl, rfl, ⟨rfl, .inl ⟨rfl, rfl⟩⟩, Below.refl _ _⟩
    case round =>
      obtain ⟨j, A', c', hj, rfl, rfl, h1, h2⟩ := hrel
      have OW := Lib.hid h1
      have B2 := Lib.hid h2
      have R2 := Lib.hid (R1.out.below h2 B1.out.size)
      have R3 := Lib.hid (R2.out.more (Nat.le_trans B1.out.size h2.size))
      clear h1 h2
      by_cases hlt : j < n
      · have e1 : decide ((j : Int) < (n : Int)) = true := by simp; omega
        have e1' : decide (j < n) = true := by simp; omega
        go_wp2_with fail
        refine (HDY.out wr R3.out).mono ?_
        rintro e w' ⟨rfl, rfl⟩
        go_wp2_with fail
        clear e1 e1'
        obtain ⟨wo, rfl⟩ : ∃ wo : World, wo = wr := ⟨_, rfl⟩
        go_loopw [7, 8] (fun v i wr => ∃ k mk : Nat, k ≤ m ∧ v = .int .i64 (cnt (nwR · j) C k : Nat) ∧ i = .int .i64 k ∧ wr = wo.drewN mk) (fun _ i _ => m - (intOf i).toNat)
        case atStart => exact ⟨0, 0, by omega, rfl, rfl, rfl⟩
        case round =>
          obtain ⟨k, mk, hk, rfl, rfl, hw⟩ := hrel
          have HW := Lib.hid hw
          by_cases hlk : k < m
          · have hR4 : Rd wr w.heap.size A (txts C) := by rw [hw]; exact R2.out.drewN mk
            obtain ⟨b, off, z, hA, _, hz, c1⟩ := HT.out wr hR4 k hlk
            obtain ⟨h8, hsz, _, _⟩ := HA.out z (List.mem_of_getElem? hz.out)
            have hnx := cnt_next (P := (nwR · j)) hz.out
            have R5 := Lib.hid (show Rd wr wr.heap.size A (txts C) from hR4.more (by rw [hw]; exact Nat.le_trans (Nat.le_trans B1.out.size B2.out.size) (Nat.le_refl _)))
            have HDR := Lib.hid (fun q => HDY.out (wr.drewN q) (R5.out.drewN q))
            have b0 : (0 : Int) ≤ (k : Int) := by omega
            have b1 : (k : Int) < (m : Int) := by omega
            have e2 : decide ((k : Int) < (m : Int)) = true := by simp; omega
            have e2' : decide (k < m) = true := by simp; omega
            have hc60 := cnt_le (nwR · j) C k
            have HC0 := Lib.hid (fun w => show Calls Tryd.prog 27 #[.string z, .int .i64 (j : Int), .int .i64 ((j : Int) + 1)] w fun e w' => e = .returned (.bool (inB z j (j + 1))) ∧ w = w' from caught_any z j (j + 1) (by omega) (by omega) (by omega) w)
            have HC1 := Lib.hid (fun w => show Calls Tryd.prog 27 #[.string z, .int .i64 0, .int .i64 (j : Int)] w fun e w' => e = .returned (.bool (inB z 0 j)) ∧ w = w' from caught_any z 0 j (by omega) (by omega) (by omega) w)
            have hP : (nwR z j) = (inB z j (j + 1) && !inB z 0 j) := rfl
            obtain ⟨q0, hq0⟩ : ∃ q, inB z j (j + 1) = q := ⟨_, rfl⟩
            rw [hq0] at HC0 hP
            obtain ⟨q1, hq1⟩ : ∃ q, inB z 0 j = q := ⟨_, rfl⟩
            rw [hq1] at HC1 hP
            rw [hP] at hnx
            have HNX := Lib.hid hnx
            have hx60 : cnt (nwR · j) C k ≤ 60 := by omega
            generalize cnt (nwR · j) C k = x at *
            subst hA
            clear hP hnx hw hz hR4 hsz hq0 hq1 hc60
            cases q0
            · have HN := Lib.hid (show cnt (nwR · j) C (k + 1) = x by rw [HNX.out]; rfl)
              clear hlk
              go_wp2_with fail
              refine (HC0.out _).mono ?_
              rintro e w2 ⟨rfl, rfl⟩
              go_wp2_with fail
              go_roundw
              case rel => exact ⟨k + 1, _, by omega, by rw [HN.out], by go_num, HW.out⟩
              case measure => simp [intOf]; omega
            · cases q1
              · have HN := Lib.hid (show cnt (nwR · j) C (k + 1) = x + 1 by rw [HNX.out]; rfl)
                clear hlk
                go_wp2_with fail
                refine (HC0.out _).mono ?_
                rintro e w2 ⟨rfl, rfl⟩
                go_wp2_with fail
                refine (HC1.out _).mono ?_
                rintro e w2 ⟨rfl, rfl⟩
                go_wp2_with fail
                go_roundw
                case rel => exact ⟨k + 1, _, by omega, by rw [HN.out]; go_num, by go_num, HW.out⟩
                case measure => simp [intOf]; omega
              · have HN := Lib.hid (show cnt (nwR · j) C (k + 1) = x by rw [HNX.out]; rfl)
                clear hlk
                go_wp2_with fail
                refine (HC0.out _).mono ?_
                rintro e w2 ⟨rfl, rfl⟩
                go_wp2_with fail
                refine (HC1.out _).mono ?_
                rintro e w2 ⟨rfl, rfl⟩
                go_wp2_with fail
                go_roundw
                case rel => exact ⟨k + 1, _, by omega, by rw [HN.out], by go_num, HW.out⟩
                case measure => simp [intOf]; omega
          · have hkm : k = m := by omega
            subst hkm
            have e2 : decide ((k : Int) < (k : Int)) = false := by simp
            have e2' : decide (k < k) = false := by simp
            have HFJ := Lib.hid (show cnt (nwR · j) C k = F j by rw [HF.out, HMC.out])
            have hF60 : F j ≤ 60 := by rw [HF.out]; exact HCL.out j
            have OW4 := Lib.hid (show wr.ownsRow w1.heap.size 3 1 (.slice A' j c') j (ints (rowZ F j)) by rw [hw]; exact OW.out)
            have B4 := Lib.hid (show Below w1.heap.size w1 wr by rw [hw]; exact bdH B2.out mk)
            have HPS := Lib.hid (rowZ_snoc F j)
            rw [HFJ.out]
            clear hw hlk
            generalize F j = x at *
            go_wp2_with ((with_reducible show wpList _ _ _ (⟨some 48, _, _, _, _, _⟩ :: _) _ _); refine app eInt rfl (.tmp 45) (.tmp 47) rfl rfl (OW4.out.alloc _) (B4.out.alloc B4.out.size (.cells #[.int .i64 (x : Int)] 3)) (size_alloc' B4.out.size _) rfl (Rd.one wr (.int .i64 (x : Int)) 3 (Nat.lt_succ_self _)) (by simp) (ints_one [(x : Int)]) (j + 1) rfl (by omega) ?_; intro A2 c2 w11 o2 b2 _ _; have O2 := Lib.hid (show w11.ownsRow w1.heap.size 3 1 (.slice A2 (j + 1) c2) (j + 1) (ints (rowZ F (j + 1))) by rw [HPS.out]; exact o2); have B11 := Lib.hid b2; clear o2 b2)
            go_roundw
            case rel => exact ⟨j + 1, A2, c2, by omega, rfl, by go_num, O2.out, B11.out⟩
            case measure => simp [intOf]; omega
      · have hjn : j = n := by omega
        have e1 : decide ((j : Int) < (n : Int)) = false := by simp; omega
        have e1' : decide (j < n) = false := by simp; omega
        subst hjn
        clear hlt
        go_wp2_with fail
        refine (HDY.out wr R3.out).mono ?_
        rintro e w' ⟨rfl, rfl⟩
        go_wp2_with fail
        go_ret2
        exact ⟨A', c', by rw [HL.out, HE.out, rowZ_len]; rfl, by rw [HL.out]; exact Rd.of_own OW.out, B1.out.trans (B2.out.mono B1.out.size)⟩
  · have e1 : (vhE C != 0) = true := by simpa using hv
    have HL := Lib.hid (show dayL nwR C = [] from if_neg hv)
    clear hv
    generalize vhE C = E at *
    go_enter Tryd.func10, Tryd.ntmps10
    go_wp2_with fail
    refine HV.out.mono ?_
    rintro e w1 ⟨rfl, m0, hw1⟩
    have B1 := Lib.hid (show Below w.heap.size w w1 by rw [hw1]; exact bdH (Below.refl _ _) m0)
    clear hw1
    go_wp2_with fail
    go_ret2
    exact ⟨none, 0, by rw [HL.out]; rfl, by rw [HL.out]; exact Rd.nil_, B1.out⟩
end Go.Proofs.YtgpghnhpbjnhkaaDoor

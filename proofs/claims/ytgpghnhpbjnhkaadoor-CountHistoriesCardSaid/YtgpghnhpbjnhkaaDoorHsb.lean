/-
  How long each bird is known to be alive: the walk of Lives of the reference. Condition: the list can be read.
-/
import Derived.Test.YtgpghnhpbjnhkaaDoorHsa
namespace Go.Proofs.YtgpghnhpbjnhkaaDoor
open Go.RowKit
set_option linter.unusedVariables false

theorem inB_up {s : ByteArray} {f d : Nat} (hf : hitB s f = true) (h0 : ∀ d, d < f → hitB s d = false) : inB s 0 (d + 1) = decide (f ≤ d) := by
  by_cases h : f ≤ d
  · rw [decide_eq_true h]
    exact inB_iff.2 ⟨f, Nat.zero_le _, by omega, hf⟩
  · rw [decide_eq_false h]
    cases hc : inB s 0 (d + 1)
    · rfl
    · obtain ⟨k, _, hk, hh⟩ := inB_iff.1 hc
      rw [h0 k (by omega)] at hh; cases hh
theorem inB_down {s : ByteArray} {l d : Nat} (hl : hitB s l = true) (hls : l < s.size) (h0 : ∀ d, l < d → hitB s d = false) : inB s d s.size = decide (d ≤ l) := by
  by_cases h : d ≤ l
  · rw [decide_eq_true h]
    exact inB_iff.2 ⟨l, h, hls, hl⟩
  · rw [decide_eq_false h]
    cases hc : inB s d s.size
    · rfl
    · obtain ⟨k, hk, _, hh⟩ := inB_iff.1 hc
      rw [h0 k (by omega)] at hh; cases hh
set_option maxRecDepth 8000 in
set_option maxHeartbeats 2000000 in
theorem rLives_any (A : Option Addr) (cp : Nat) (C : List ByteArray) (hs : Sz C) (hl : C.length ≤ 9223372036854775807) (w : World) (hr : Rd w w.heap.size A (txts C)) :
    Calls Tryd.prog 17 #[.slice A C.length cp] w fun e w' => LivPost C w e w' := by
  have HV := Lib.hid (rValidateHistories_any A cp C hs hl w hr)
  have HR := Lib.hid hr
  unfold LivPost
  clear hr hs
  by_cases hv : vhE C = 0
  · rw [hv] at HV
    have HE := Lib.hid hv
    obtain ⟨h60, hall⟩ := vh_bird hv
    have HA := Lib.hid hall
    have HL := Lib.hid (show livL C = rowZ (lvAt C) C.length from if_pos hv)
    have HT := Lib.hid (fun w1 (h : Rd w1 w.heap.size A (txts C)) k hk => h.txt k hk)
    obtain ⟨m, hm⟩ : ∃ m, C.length = m := ⟨_, rfl⟩
    rw [hm] at HT HV h60 HL ⊢
    clear hv hall hm
    go_enter Tryd.func17, Tryd.ntmps17
    go_wp2_with fail
    refine HV.out.mono ?_
    rintro e w1 ⟨rfl, m0, hw1⟩
    have R1 := Lib.hid (show Rd w1 w.heap.size A (txts C) by rw [hw1]; exact HR.out.drewN m0)
    have B1 := Lib.hid (show Below w.heap.size w w1 by rw [hw1]; exact bdH (Below.refl _ _) m0)
    clear hw1
    go_wp2_with fail
    go_loopw [5, 6] (fun v i wr => ∃ (j : Nat) (A' : Option Addr) (c' : Nat), j ≤ m ∧ v = .slice A' j c' ∧ i = .int .i64 j ∧ wr.ownsRow w1.heap.size 3 1 (.slice A' j c') j (ints (rowZ (lvAt C) j)) ∧ Below w1.heap.size w1 wr) (fun _ i _ => m - (intOf i).toNat)
    case atStart => exact ⟨0, none, 0, by omega, rfl, rfl, ⟨rfl, .inl ⟨rfl, rfl⟩⟩, Below.refl _ _⟩
    case round =>
      obtain ⟨j, A', c', hj, rfl, rfl, h1, h2⟩ := hrel
      have OW := Lib.hid h1
      have B2 := Lib.hid h2
      have hR2 := R1.out.below h2 B1.out.size
      clear h1 h2
      by_cases hlt : j < m
      · have e1 : decide ((j : Int) < (m : Int)) = true := by simp; omega
        have e1' : decide (j < m) = true := by simp; omega
        obtain ⟨b, off, z, hA, _, hz, c1⟩ := HT.out wr hR2 j hlt
        obtain ⟨h8, hzz, hbt, h1b⟩ := HA.out z (List.mem_of_getElem? hz.out)
        obtain ⟨f, l, hef, hel, hfl, hls, hhf, hhl, hf0, hl0, en⟩ := lv_one h1b
        have HLV := Lib.hid (show lvAt C j = l - f + 1 by
          unfold lvAt
          rw [List.getD_eq_getElem?_getD, hz.out]
          exact en)
        have HUP := Lib.hid (fun d => inB_up (d := d) hhf hf0)
        have HDN := Lib.hid (fun d => inB_down (d := d) hhl hls hl0)
        have HCU := Lib.hid (fun d (hd : d < z.size) w => caught_any z 0 (d + 1) (by omega) (by omega) (by omega) w)
        have HCD := Lib.hid (fun d (hd : d < z.size) w => caught_any z d z.size (by omega) (by omega) (by omega) w)
        have b0 : (0 : Int) ≤ (j : Int) := by omega
        have b1 : (j : Int) < (m : Int) := by omega
        obtain ⟨n, hn⟩ : ∃ n, z.size = n := ⟨_, rfl⟩
        have hn8 : n ≤ 8 := by omega
        have hln : l < n := by omega
        have hz8 : z.size ≤ 8 := h8
        have hzl : l < z.size := hls
        have HN := Lib.hid hn
        subst hA
        clear hz hR2 h1b hhf hhl hf0 hl0 en h8 hls hn hzz hbt hef hel
        go_wp2_with fail
        rw [HN.out]
        clear e1 e1'
        go_loop [7, 8] (fun v i => ∃ d : Nat, d ≤ f ∧ v = .int .i64 ((n : Int) - (d : Int)) ∧ i = .int .i64 d) (fun _ i => f - (intOf i).toNat)
        case atStart => exact ⟨0, by omega, by simp, rfl⟩
        case round =>
          obtain ⟨d, hd, rfl, rfl⟩ := hrel
          have HC := Lib.hid (HCU.out d (by have := HN.out; omega) wr)
          rw [HUP.out d] at HC
          by_cases hdf : d < f
          · rw [decide_eq_false (by omega)] at HC
            go_wp2_with fail
            refine HC.out.mono ?_
            rintro e w2 ⟨rfl, rfl⟩
            go_wp2_with fail
            go_round
            case rel => exact ⟨d + 1, by omega, by go_num, by go_num⟩
            case measure => simp [intOf]; omega
          · have hde : d = f := by omega
            rw [decide_eq_true (by omega)] at HC
            subst hde
            clear hdf hd
            go_wp2_with fail
            refine HC.out.mono ?_
            rintro e w2 ⟨rfl, rfl⟩
            go_wp2_with fail
            rw [HN.out]
            obtain ⟨wo, rfl⟩ : ∃ wo : World, wo = wr := ⟨_, rfl⟩
            go_loopw [7, 9] (fun v i wr => ∃ q mk : Nat, l ≤ q ∧ q < n ∧ v = .int .i64 ((q : Int) - (d : Int) + 1) ∧ i = .int .i64 q ∧ wr = wo.drewN mk) (fun _ i _ => (intOf i).toNat)
            case atStart => exact ⟨n - 1, 0, by omega, by omega, by go_num, by go_num, rfl⟩
            case round =>
              obtain ⟨q, mk, hq, hqn, rfl, rfl, hw⟩ := hrel
              have HW := Lib.hid hw
              have c2 : wr.cell? ⟨b, off + j, none⟩ = some (.string z) := by rw [hw]; exact c1
              have HC2 := Lib.hid (fun w => HCD.out q (by have := HN.out; omega) w)
              rw [HDN.out q, HN.out] at HC2
              have hzn := HN.out
              by_cases hql : l < q
              · rw [decide_eq_false (by omega)] at HC2
                clear hw
                go_wp2_with fail
                go_quiet ((go_at_call 27; with_reducible exact qs0 (HC2.out _)))
                go_wp2_with fail
                go_roundw
                case rel => exact ⟨q - 1, _, by omega, by omega, by go_num, by go_num, by rw [HW.out]; exact World.drewN_drewN _ _ _⟩
                case measure => simp [intOf]; omega
              · have hqe : q = l := by omega
                rw [decide_eq_true (by omega)] at HC2
                subst hqe
                have HRW := Lib.hid (show ∀ k, wr.drewN k = wo.drewN (mk + k) from fun k => by rw [hw]; exact World.drewN_drewN _ _ _)
                have HXV := Lib.hid (show ((q : Int) - (d : Int) + 1) = ((lvAt C j : Nat) : Int) by rw [HLV.out]; omega)
                have hF60 : lvAt C j ≤ 60 := by rw [HLV.out]; omega
                have HPS := Lib.hid (rowZ_snoc (lvAt C) j)
                clear hw hql
                go_wp2_with fail
                go_quiet ((go_at_call 27; with_reducible exact qs0 (HC2.out _)))
                rw [HXV.out]
                have OW4 := Lib.hid (show (wr.drewN nq).ownsRow w1.heap.size 3 1 (.slice A' j c') j (ints (rowZ (lvAt C) j)) by rw [HRW.out]; exact OW.out)
                have B4 := Lib.hid (show Below w1.heap.size w1 (wr.drewN nq) by rw [HRW.out]; exact bdH B2.out _)
                generalize wr.drewN nq = wq at *
                generalize lvAt C j = x at *
                go_wp2_with ((with_reducible show wpList _ _ _ (⟨some 63, _, _, _, _, _⟩ :: _) _ _); refine app eInt rfl (.tmp 60) (.tmp 62) rfl rfl (OW4.out.alloc _) (B4.out.alloc B4.out.size (.cells #[.int .i64 (x : Int)] 3)) (size_alloc' B4.out.size _) rfl (Rd.one wq (.int .i64 (x : Int)) 3 (Nat.lt_succ_self _)) (by simp) (ints_one [(x : Int)]) (j + 1) rfl (by omega) ?_; intro A2 c2 w11 o2 b2 _ _; have O2 := Lib.hid (show w11.ownsRow w1.heap.size 3 1 (.slice A2 (j + 1) c2) (j + 1) (ints (rowZ (lvAt C) (j + 1))) by rw [HPS.out]; exact o2); have B11 := Lib.hid b2; clear o2 b2)
                go_roundw
                case rel => exact ⟨j + 1, A2, c2, by omega, rfl, by go_num, O2.out, B11.out⟩
                case measure => simp [intOf]; omega
      · have hjn : j = m := by omega
        have e1 : decide ((j : Int) < (m : Int)) = false := by simp; omega
        have e1' : decide (j < m) = false := by simp; omega
        subst hjn
        clear hlt hR2
        go_wp2_with fail
        go_ret2
        exact ⟨A', c', by rw [HL.out, HE.out, rowZ_len]; rfl, by rw [HL.out]; exact Rd.of_own OW.out, B1.out.trans (B2.out.mono B1.out.size)⟩
  · have e1 : (vhE C != 0) = true := by simpa using hv
    have HL := Lib.hid (show livL C = [] from if_neg hv)
    clear hv
    generalize vhE C = E at *
    go_enter Tryd.func17, Tryd.ntmps17
    go_wp2_with fail
    refine HV.out.mono ?_
    rintro e w1 ⟨rfl, m0, hw1⟩
    have B1 := Lib.hid (show Below w.heap.size w w1 by rw [hw1]; exact bdH (Below.refl _ _) m0)
    clear hw1
    go_wp2_with fail
    go_ret2
    exact ⟨none, 0, by rw [HL.out]; rfl, by rw [HL.out]; exact Rd.nil_, B1.out⟩
end Go.Proofs.YtgpghnhpbjnhkaaDoor

/-
  Which numbers of birds are possible: the walk of Possible of the reference. Every argument.
-/
import Derived.Test.YtgpghnhpbjnhkaaCd2
namespace Go.Proofs.Ytgpghnhpbjnhkaa
open Go.RowKit
set_option linter.unusedVariables false

set_option maxRecDepth 8000 in
set_option maxHeartbeats 4000000 in
theorem rPossible_any (m c a ln ld : Int) (w : World) : Calls Try.prog 32 #[.int .i64 m, .int .i64 c, .int .i64 a, .agg (rt ln ld)] w fun e w' => PoPost m c a ln ld w e w' := by
  obtain ⟨l0, l1, hl⟩ := box_rt w ln ld 31
  have hsz : (w.alloc (.cells (rt ln ld) 31)).heap.size = w.heap.size + 1 := by simp
  obtain ⟨W, hW⟩ : ∃ W, w.alloc (.cells (rt ln ld) 31) = W := ⟨_, rfl⟩
  rw [hW] at l0 l1 hl hsz
  have HA := birds3 m c a W
  rw [hsz] at HA
  have HAA := Lib.hid HA
  have HW := Lib.hid hW
  have HLV := Lib.hid (fun w => IsLevel_any ln ld w)
  have HRc := Lib.hid (fun w => recaptured_any m c a w)
  have HBW := Lib.hid hl
  have HL0 := Lib.hid l0
  have HL1 := Lib.hid l1
  have HSZ := Lib.hid hsz
  clear HA l0 l1 hl hsz hW
  cases hv : allB [m, c, a]
  · rw [hv] at HAA
    have HE := Lib.hid (show poE m c a ln ld = 1 from if_neg (by rw [hv]; simp))
    clear hv
    go_enter Try.func32, Try.ntmps32
    go_wp2_with fail
    rw [HW.out]
    refine HAA.out.mono ?_
    rintro e w1 ⟨rfl, hb⟩
    have B1 := Lib.hid (HBW.out.trans (hb.mono (Nat.le_succ _)))
    have l0 := cell_keep HL0.out hb (Nat.lt_succ_self _)
    have l1 := cell_keep HL1.out hb (Nat.lt_succ_self _)
    have hlt : w.heap.size < w1.heap.size := by have := hb.size; have := HSZ.out; omega
    clear hb
    clear l0 l1 hlt
    go_wp2_with fail
    go_ret2
    have hL := po_none (m := m) (c := c) (a := a) (ln := ln) (ld := ld) (by rw [HE.out]; decide)
    exact ⟨none, 0, by rw [hL, HE.out]; rfl, by rw [hL]; exact Rd.nil_, B1.out⟩
  · rw [hv] at HAA
    cases hlv : lvB ln ld
    · rw [hlv] at HLV
      have HE := Lib.hid (show poE m c a ln ld = 1 from if_neg (by rw [hlv]; simp))
      clear hv hlv
      go_enter Try.func32, Try.ntmps32
      go_wp2_with fail
      rw [HW.out]
      refine HAA.out.mono ?_
      rintro e w1 ⟨rfl, hb⟩
      have B1 := Lib.hid (HBW.out.trans (hb.mono (Nat.le_succ _)))
      have l0 := cell_keep HL0.out hb (Nat.lt_succ_self _)
      have l1 := cell_keep HL1.out hb (Nat.lt_succ_self _)
      have hlt : w.heap.size < w1.heap.size := by have := hb.size; have := HSZ.out; omega
      clear hb
      go_wp2_with fail
      refine (HLV.out w1).mono ?_
      rintro e w2 ⟨rfl, hb⟩
      have B2 := Lib.hid (B1.out.trans (hb.mono B1.out.size))
      have m0 := cell_keep l0 hb hlt
      have m1 := cell_keep l1 hb hlt
      have hlt2 : w.heap.size < w2.heap.size := Nat.lt_of_lt_of_le hlt hb.size
      clear hb l0 l1 hlt
      clear m0 m1 hlt2
      go_wp2_with fail
      go_ret2
      have hL := po_none (m := m) (c := c) (a := a) (ln := ln) (ld := ld) (by rw [HE.out]; decide)
      exact ⟨none, 0, by rw [hL, HE.out]; rfl, by rw [hL]; exact Rd.nil_, B2.out⟩
    · rw [hlv] at HLV
      have HE0 := Lib.hid (show poE m c a ln ld = if fitB m c a = true then 0 else 8 from if_pos ⟨hv, hlv⟩)
      have HC0 := Lib.hid (show cpE m c a = if fitB m c a = true then 0 else 8 from if_pos hv)
      obtain ⟨⟨mm0, mm1⟩, ⟨cc0, cc1⟩, aa0, aa1⟩ := allB3 hv
      obtain ⟨⟨ld1, ld2⟩, ln0, ln1⟩ := lv_bounds hlv
      clear hv hlv
      cases hf : fitB m c a
      · rw [show cpE m c a = 8 by rw [HC0.out, hf]; rfl] at HRc
        have HE := Lib.hid (show poE m c a ln ld = 8 by rw [HE0.out, hf]; rfl)
        clear hf
        go_enter Try.func32, Try.ntmps32
        go_wp2_with fail
        rw [HW.out]
        refine HAA.out.mono ?_
        rintro e w1 ⟨rfl, hb⟩
        have B1 := Lib.hid (HBW.out.trans (hb.mono (Nat.le_succ _)))
        have l0 := cell_keep HL0.out hb (Nat.lt_succ_self _)
        have l1 := cell_keep HL1.out hb (Nat.lt_succ_self _)
        have hlt : w.heap.size < w1.heap.size := by have := hb.size; have := HSZ.out; omega
        clear hb
        go_wp2_with fail
        refine (HLV.out w1).mono ?_
        rintro e w2 ⟨rfl, hb⟩
        have B2 := Lib.hid (B1.out.trans (hb.mono B1.out.size))
        have m0 := cell_keep l0 hb hlt
        have m1 := cell_keep l1 hb hlt
        have hlt2 : w.heap.size < w2.heap.size := Nat.lt_of_lt_of_le hlt hb.size
        clear hb l0 l1 hlt
        go_wp2_with fail
        refine (HRc.out w2).mono ?_
        rintro e w3 ⟨rfl, hb⟩
        have B3 := Lib.hid (B2.out.trans (hb.mono B2.out.size))
        clear hb m0 m1 hlt2
        go_wp2_with fail
        go_ret2
        have hL := po_none (m := m) (c := c) (a := a) (ln := ln) (ld := ld) (by rw [HE.out]; decide)
        exact ⟨none, 0, by rw [hL, HE.out]; rfl, by rw [hL]; exact Rd.nil_, B3.out⟩
      · rw [show cpE m c a = 0 by rw [HC0.out, hf]; rfl] at HRc
        have HE := Lib.hid (show poE m c a ln ld = 0 by rw [HE0.out, hf]; rfl)
        have hf2 : a ≤ m ∧ a ≤ c := by unfold fitB at hf; simpa using hf
        have HL := Lib.hid (show poL m c a ln ld = poS (m + c - a).toNat m.toNat c.toNat a.toNat ln.toNat ld.toNat (61 - (m + c - a).toNat) from if_pos HE.out)
        obtain ⟨n, hn⟩ : ∃ n, n = (m + c - a).toNat := ⟨_, rfl⟩
        obtain ⟨M, hM⟩ : ∃ M, M = m.toNat := ⟨_, rfl⟩
        obtain ⟨C, hC⟩ : ∃ C, C = c.toNat := ⟨_, rfl⟩
        obtain ⟨D, hD⟩ : ∃ D, D = a.toNat := ⟨_, rfl⟩
        obtain ⟨p, hp⟩ : ∃ p, p = ln.toNat := ⟨_, rfl⟩
        obtain ⟨q, hq⟩ : ∃ q, q = ld.toNat := ⟨_, rfl⟩
        rw [← hn, ← hM, ← hC, ← hD, ← hp, ← hq] at HL
        obtain ⟨hMm, hCc, hDa, hpl, hql⟩ : m = (M : Int) ∧ c = (C : Int) ∧ a = (D : Int) ∧ ln = (p : Int) ∧ ld = (q : Int) := ⟨by omega, by omega, by omega, by omega, by omega⟩
        have hMn : M ≤ n := by omega
        have hCn : C ≤ n := by omega
        have hM60 : M ≤ 60 := by omega
        have hC60 : C ≤ 60 := by omega
        have hD60 : D ≤ 60 := by omega
        have hp1 : p ≤ 1000 := by omega
        have hq1 : q ≤ 1000 := by omega
        have HNN := Lib.hid (show (M : Int) + (C : Int) - (D : Int) = (n : Int) by omega)
        clear hp hq hn hM hC hD hf hf2 mm0 mm1 cc0 cc1 aa0 aa1 ld1 ld2 ln0 ln1 HE0 HC0
        subst hMm hCc hDa hpl hql
        obtain ⟨K, hK⟩ : ∃ K, K = 61 - n := ⟨_, rfl⟩
        have HK61 := Lib.hid hK
        rw [← hK] at HL
        have hK61 : K ≤ 61 := by omega
        clear hK
        go_enter Try.func32, Try.ntmps32
        go_wp2_with fail
        rw [HW.out]
        refine HAA.out.mono ?_
        rintro e w1 ⟨rfl, hb⟩
        have B1 := Lib.hid (HBW.out.trans (hb.mono (Nat.le_succ _)))
        have l0 := cell_keep HL0.out hb (Nat.lt_succ_self _)
        have l1 := cell_keep HL1.out hb (Nat.lt_succ_self _)
        have hlt : w.heap.size < w1.heap.size := by have := hb.size; have := HSZ.out; omega
        clear hb
        go_wp2_with fail
        refine (HLV.out w1).mono ?_
        rintro e w2 ⟨rfl, hb⟩
        have B2 := Lib.hid (B1.out.trans (hb.mono B1.out.size))
        have m0 := cell_keep l0 hb hlt
        have m1 := cell_keep l1 hb hlt
        have hlt2 : w.heap.size < w2.heap.size := Nat.lt_of_lt_of_le hlt hb.size
        clear hb l0 l1 hlt
        go_wp2_with fail
        refine (HRc.out w2).mono ?_
        rintro e w3 ⟨rfl, hb⟩
        have B3 := Lib.hid (B2.out.trans (hb.mono B2.out.size))
        have P0 := Lib.hid (cell_keep m0 hb hlt2)
        have P1 := Lib.hid (cell_keep m1 hb hlt2)
        have HLT := Lib.hid (Nat.lt_of_lt_of_le hlt2 hb.size)
        clear hb m0 m1 hlt2
        go_wp2_with fail
        go_loopw [11, 12] (fun v i wr => ∃ (j : Nat) (A' : Option Addr) (c' : Nat), n + j ≤ n + K ∧ v = .slice A' (poS n M C D p q j).length c' ∧ i = .int .i64 ((n + j : Nat) : Int) ∧ wr.ownsRow w3.heap.size 3 1 (.slice A' (poS n M C D p q j).length c') (poS n M C D p q j).length (ints (poS n M C D p q j)) ∧ Below w3.heap.size w3 wr) (fun _ i _ => 61 - (intOf i).toNat)
        case atStart => exact ⟨0, none, 0, by omega, rfl, by rw [HNN.out]; rfl, ⟨rfl, .inl ⟨rfl, rfl⟩⟩, Below.refl _ _⟩
        case round =>
          obtain ⟨j, A', c', hj, rfl, rfl, h1, h2⟩ := hrel
          have OW := Lib.hid h1
          have B6 := Lib.hid h2
          obtain ⟨x, hx⟩ : ∃ x, x = n + j := ⟨_, rfl⟩
          have HX := Lib.hid hx
          rw [← hx]
          by_cases hlt : j < K
          · have hx60 : x ≤ 60 := by have := HK61.out; omega
            have e1 : decide ((x : Int) ≤ 60) = true := by simp; omega
            have e1' : decide (x ≤ 60) = true := by simp; omega
            have q0 := cell_keep P0.out h2 HLT.out
            have q1 := cell_keep P1.out h2 HLT.out
            have Q1 := Lib.hid (fun w => rbinomial_any x C (by omega) (by omega) w)
            rw [bI_nat] at Q1
            have Q2 := Lib.hid (fun w => upTo_any x M C (D + 1) hx60 (by omega) (by omega) (by omega) w)
            rw [show (((D + 1 : Nat) : Int) - 1) = (D : Int) by omega] at Q2
            have Q3 := Lib.hid (fun w => upTo_any x M C D hx60 (by omega) (by omega) (by omega) w)
            have l1 := ch_small hx60 C
            have l2 := upW_le (n := x) (m := M) (c := C) (by omega) (D + 1)
            have l3 := upW_le (n := x) (m := M) (c := C) (by omega) D
            have hpo : poB M C D p q x = (decide (p * ch x C < upW x M C (D + 1) * q) && decide (p * ch x C < (ch x C - upW x M C D) * q)) := rfl
            generalize ch x C = y at *
            generalize upW x M C (D + 1) = u at *
            generalize upW x M C D = v at *
            have HA1 := Lib.hid (fun w => above_any u q p y (by omega) (by omega) (by omega) (by omega) w)
            have HA2 := Lib.hid (fun w => above_any (y - v) q p y (by omega) (by omega) (by omega) (by omega) w)
            rw [show ((y - v : Nat) : Int) = (y : Int) - (v : Int) by omega] at HA2
            have HPO := Lib.hid hpo
            have hl61 : (poS n M C D p q j).length ≤ 61 := by have := poS_le n M C D p q j; omega
            clear hpo h1
            generalize hr1 : decide (p * y < u * q) = r1 at *
            generalize hr2 : decide (p * y < (y - v) * q) = r2 at *
            clear hr1 hr2 hx
            have hj1 : n + (j + 1) ≤ n + K := by omega
            clear h2
            cases r1
            · have HN := Lib.hid (poS_no (k := j) (show poB M C D p q (n + j) = false by rw [← HX.out, HPO.out]; rfl))
              go_wp2_with fail
              refine (Q1.out _).mono ?_
              rintro e w' ⟨rfl, rfl⟩
              go_wp2_with fail
              refine (Q2.out _).mono ?_
              rintro e w' ⟨rfl, rfl⟩
              go_wp2_with fail
              refine (Q3.out _).mono ?_
              rintro e w' ⟨rfl, rfl⟩
              go_wp2_with fail
              refine (HA1.out _).mono ?_
              rintro e w' ⟨rfl, rfl⟩
              go_wp2_with fail
              go_roundw
              case rel => exact ⟨j + 1, A', c', hj1, by rw [HN.out], by rw [show n + (j + 1) = x + 1 by have := HX.out; omega]; go_num, by rw [HN.out]; exact OW.out, B6.out⟩
              case measure => simp [intOf]; omega
            · cases r2
              · have HN := Lib.hid (poS_no (k := j) (show poB M C D p q (n + j) = false by rw [← HX.out, HPO.out]; rfl))
                go_wp2_with fail
                refine (Q1.out _).mono ?_
                rintro e w' ⟨rfl, rfl⟩
                go_wp2_with fail
                refine (Q2.out _).mono ?_
                rintro e w' ⟨rfl, rfl⟩
                go_wp2_with fail
                refine (Q3.out _).mono ?_
                rintro e w' ⟨rfl, rfl⟩
                go_wp2_with fail
                refine (HA1.out _).mono ?_
                rintro e w' ⟨rfl, rfl⟩
                go_wp2_with fail
                refine (HA2.out _).mono ?_
                rintro e w' ⟨rfl, rfl⟩
                go_wp2_with fail
                go_roundw
                case rel => exact ⟨j + 1, A', c', hj1, by rw [HN.out], by rw [show n + (j + 1) = x + 1 by have := HX.out; omega]; go_num, by rw [HN.out]; exact OW.out, B6.out⟩
                case measure => simp [intOf]; omega
              · have HN := Lib.hid (poS_yes (k := j) (show poB M C D p q (n + j) = true by rw [← HX.out, HPO.out]; rfl))
                have HPS := Lib.hid (show ints (poS n M C D p q (j + 1)) = ints (poS n M C D p q j) ++ [.int .i64 (x : Int)] by rw [HN.out, HX.out]; simp [ints])
                have HPL := Lib.hid (show (poS n M C D p q (j + 1)).length = (poS n M C D p q j).length + 1 by rw [HN.out]; simp)
                go_wp2_with fail
                refine (Q1.out _).mono ?_
                rintro e w' ⟨rfl, rfl⟩
                go_wp2_with fail
                refine (Q2.out _).mono ?_
                rintro e w' ⟨rfl, rfl⟩
                go_wp2_with fail
                refine (Q3.out _).mono ?_
                rintro e w' ⟨rfl, rfl⟩
                go_wp2_with fail
                refine (HA1.out _).mono ?_
                rintro e w' ⟨rfl, rfl⟩
                go_wp2_with fail
                refine (HA2.out _).mono ?_
                rintro e w' ⟨rfl, rfl⟩
                go_wp2_with ((with_reducible show wpList _ _ _ (⟨some 78, _, _, _, _, _⟩ :: _) _ _); refine app eInt rfl (.tmp 75) (.tmp 77) rfl rfl (OW.out.alloc _) (B6.out.alloc B6.out.size (.cells #[.int .i64 (x : Int)] 3)) (size_alloc' B6.out.size _) rfl (Rd.one wr (.int .i64 (x : Int)) 3 (Nat.lt_succ_self _)) (by simp) (ints_one [(x : Int)]) ((poS n M C D p q j).length + 1) rfl (by omega) ?_; intro A2 c2 w11 o2 b2 _ _; have O2 := Lib.hid (show w11.ownsRow w3.heap.size 3 1 (.slice A2 (poS n M C D p q (j + 1)).length c2) (poS n M C D p q (j + 1)).length (ints (poS n M C D p q (j + 1))) by rw [HPS.out, HPL.out]; exact o2); have B11 := Lib.hid b2; clear o2 b2)
                go_roundw
                case rel => exact ⟨j + 1, A2, c2, hj1, by rw [HPL.out], by rw [show n + (j + 1) = x + 1 by have := HX.out; omega]; go_num, O2.out, B11.out⟩
                case measure => simp [intOf]; omega
          · have hjk : j = K := by omega
            subst hjk
            have e1 : decide ((x : Int) ≤ 60) = false := by simp; have := HK61.out; omega
            have e1' : decide (x ≤ 60) = false := by simp; have := HK61.out; omega
            clear h1 h2 hlt hx
            go_wp2_with fail
            go_ret2
            exact ⟨A', c', by rw [HL.out, HE.out]; rfl, by rw [HL.out]; exact Rd.of_own OW.out, B3.out.trans (B6.out.mono B3.out.size)⟩
end Go.Proofs.Ytgpghnhpbjnhkaa

/-
  The share of the birds of a day that were caught later: the walk of Share of the reference. Condition: the list can be read.
-/
import Derived.Test.YtegehfcnclpdeaaDoorHsg
namespace Go.Proofs.YtegehfcnclpdeaaDoor
open Go.RowKit
set_option linter.unusedVariables false

def ltR (D : Nat) (s : ByteArray) (d : Nat) : Bool := hitB s d && inB s (d + 1) D
theorem lt_same {s : ByteArray} (h : oneB s = true) (d : Nat) : ltB s d = ltR s.size s d := by
  obtain ⟨f, l, ef, el, hfl, hls, hhf, hhl, hf0, hl0, en⟩ := lv_one h
  unfold ltB ltR
  rw [inB_down hhl hls hl0, el]
  congr 1
  rw [decide_eq_decide]
  omega
theorem lt_cnt {C : List ByteArray} (hv : vhE C = 0) (d k : Nat) : cnt (ltB · d) C k = cnt (ltR (D0 C) · d) C k :=
  cnt_congr (fun s hs => by
    obtain ⟨_, h1, _, h2⟩ := (vh_bird hv).2 s hs
    rw [lt_same h2 d, h1]) k
set_option maxRecDepth 8000 in
set_option maxHeartbeats 4000000 in
theorem rShare_any (A : Option Addr) (cp : Nat) (C : List ByteArray) (hs : Sz C) (hl : C.length ≤ 9223372036854775807) (d : Int) (w : World) (hr : Rd w w.heap.size A (txts C)) :
    Calls Tryd.prog 7 #[.slice A C.length cp, .int .i64 d] w fun e w' => e = .returned (.tuple #[ratV (shV C d), .int .i64 (shE C d)]) ∧ Below w.heap.size w w' := by
  obtain ⟨W, hW, hg, hz, hB⟩ := rat0s w
  have HW := Lib.hid hW
  have HRW := Lib.hid (hr.upH hB)
  have HVW := Lib.hid (rValidateHistories_any A cp C hs hl W HRW.out)
  have HDO := Lib.hid (fun w h => days_any A cp C hs hl w h)
  clear hW hr hs
  by_cases hv : vhE C = 0
  · rw [hv] at HVW
    obtain ⟨h60, hall⟩ := vh_bird hv
    have hD := D0_le hv
    have HE0 := Lib.hid (show shE C d = if 0 ≤ d ∧ d < D0 C then (if cnt (hitB · d.toNat) C C.length = 0 then 10 else 0) else 1 from if_pos hv)
    have HWI := Lib.hid (fun w => within_any d 0 ((D0 C : Int) - 1) w)
    by_cases hd : 0 ≤ d ∧ d < D0 C
    · rw [decide_eq_true hd.1, decide_eq_true (by omega : d ≤ (D0 C : Int) - 1)] at HWI
      obtain ⟨k, hk⟩ : ∃ k : Nat, d = k := ⟨d.toNat, by omega⟩
      have hdk : d.toNat = k := by omega
      have hk8 : k < D0 C := by omega
      have HC1 := Lib.hid (fun j => Nat.le_trans (cnt_le (hitB · k) C j) (Nat.le_refl j))
      have HE1 := Lib.hid (show shE C d = if cnt (hitB · k) C C.length = 0 then 10 else 0 by rw [HE0.out, if_pos hd, hdk])
      have HV1 := Lib.hid (fun (h : shE C d = 0) => show shV C d = fr (cnt (ltR (D0 C) · k) C C.length) (cnt (hitB · k) C C.length) by unfold shV; rw [if_pos h, hdk, lt_cnt hv])
      have HF := Lib.hid (fun (hp : 0 < cnt (hitB · k) C C.length) w => Ratio_any (cnt (ltR (D0 C) · k) C C.length) (cnt (hitB · k) C C.length) (by have := Nat.le_trans (cnt_le (ltR (D0 C) · k) C C.length) h60; omega) (by have := Nat.le_trans (cnt_le (hitB · k) C C.length) h60; omega) hp w)
      have HA := Lib.hid hall
      have HT := Lib.hid (fun w1 (h : Rd w1 w1.heap.size A (txts C)) k hk => h.txt k hk)
      have hg1 := hg
      subst hk
      obtain ⟨D, hDD⟩ : ∃ D, D0 C = D := ⟨_, rfl⟩
      rw [hDD] at HDO HWI HF HV1 HA hD hk8
      obtain ⟨m, hm⟩ : ∃ m, C.length = m := ⟨_, rfl⟩
      rw [hm] at HT HVW h60 HDO HF HE1 HV1 ⊢
      clear hv hdk hd hall hDD hm hg1 HE0
      go_enter Tryd.func7, Tryd.ntmps7
      go_wp2_with fail
      rw [HW.out]
      refine HVW.out.mono ?_
      rintro e w1 ⟨rfl, m0, hw1⟩
      have hb1 : Below W.heap.size W w1 := by rw [hw1]; exact bdH (Below.refl _ _) m0
      have hB1 := hB.trans (hb1.mono hB.size)
      have hg1 := (hb1.block w.heap.size (by omega)).trans hg
      have hz1 : w.heap.size < w1.heap.size := by have := hb1.size; omega
      have R1 := Lib.hid (HRW.out.upH hb1)
      clear hw1
      have HZ1 := Lib.hid hz1
      have HB1 := Lib.hid hB1
      have HG1 := Lib.hid hg1
      clear hg hz hB hb1 hg1 hB1 hz1
      go_wp2_with fail
      refine (HDO.out w1 R1.out).mono ?_
      rintro e w' ⟨rfl, rfl⟩
      go_wp2_with fail
      refine (HWI.out w1).mono ?_
      rintro e w' ⟨rfl, rfl⟩
      go_wp2_with fail
      go_loopw [7, 8, 9] (fun u v z wr => ∃ i mk : Nat, i ≤ m ∧ u = .int .i64 (cnt (ltR D · k) C i : Nat) ∧ v = .int .i64 (cnt (hitB · k) C i : Nat) ∧ z = .int .i64 i ∧ wr = w1.drewN mk) (fun _ _ i _ => m - (intOf i).toNat)
      case atStart => exact ⟨0, 0, by omega, rfl, rfl, rfl, rfl⟩
      case round =>
        obtain ⟨i, mk, hi, rfl, rfl, rfl, hw⟩ := hrel
        have HW2 := Lib.hid hw
        by_cases hlk : i < m
        · have R2 := Lib.hid (show Rd wr wr.heap.size A (txts C) by rw [hw]; exact R1.out.drewN mk)
          obtain ⟨b, off, z, hA, _, hz, c1⟩ := HT.out wr R2.out i hlk
          obtain ⟨h8, hsz, _, _⟩ := HA.out z (List.mem_of_getElem? hz.out)
          have HNX0 := cnt_next (P := (hitB · k)) hz.out
          have HNX1 := cnt_next (P := (ltR D · k)) hz.out
          have HDR := Lib.hid (fun q => HDO.out (wr.drewN q) (R2.out.drewN q))
          have b0 : (0 : Int) ≤ (i : Int) := by omega
          have b1 : (i : Int) < (m : Int) := by omega
          have e2 : decide ((i : Int) < (m : Int)) = true := by simp; omega
          have e2' : decide (i < m) = true := by simp; omega
          have hc60 := cnt_le (hitB · k) C i
          have hc61 := cnt_le (ltR D · k) C i
          have hwr : IntKind.i64.wrap ((k : Int) + 1) = (k : Int) + 1 := by rw [IntKind.wrap_i64]; omega
          have HC0 := Lib.hid (fun w => show Calls Tryd.prog 20 #[.string z, .int .i64 (k : Int), .int .i64 ((k : Int) + 1)] w fun e w' => e = .returned (.bool (inB z k (k + 1))) ∧ w = w' from caught_any z k (k + 1) (by omega) (by omega) (by omega) w)
          have HC1 := Lib.hid (fun w => show Calls Tryd.prog 20 #[.string z, .int .i64 ((k : Int) + 1), .int .i64 (D : Int)] w fun e w' => e = .returned (.bool (inB z (k + 1) D)) ∧ w = w' from caught_any z (k + 1) D (by omega) (by omega) (by omega) w)
          rw [inB_here] at HC0
          have hP : (ltR D z k) = (hitB z k && inB z (k + 1) D) := rfl
          obtain ⟨q0, hq0⟩ : ∃ q, hitB z k = q := ⟨_, rfl⟩
          rw [hq0] at HC0 hP HNX0
          obtain ⟨q1, hq1⟩ : ∃ q, inB z (k + 1) D = q := ⟨_, rfl⟩
          rw [hq1] at HC1 hP
          rw [hP] at HNX1
          replace HNX0 := Lib.hid HNX0
          replace HNX1 := Lib.hid HNX1
          have hx60 : cnt (hitB · k) C i ≤ 60 := by omega
          have hy60 : cnt (ltR D · k) C i ≤ 60 := by omega
          generalize cnt (hitB · k) C i = x at *
          generalize cnt (ltR D · k) C i = y at *
          subst hA
          clear hP hw hz hsz hq0 hq1 hc60 hc61
          cases q0
          · have HN0 := Lib.hid (show cnt (hitB · k) C (i + 1) = x by rw [HNX0.out]; rfl)
            have HN1 := Lib.hid (show cnt (ltR D · k) C (i + 1) = y by rw [HNX1.out]; rfl)
            clear hlk
            go_wp2_with fail
            refine (HC0.out _).mono ?_
            rintro e w2 ⟨rfl, rfl⟩
            go_wp2_with fail
            go_roundw
            case rel => exact ⟨i + 1, mk, by omega, by rw [HN1.out], by rw [HN0.out], by go_num, HW2.out⟩
            case measure => simp [intOf]; omega
          · cases q1
            · have HN0 := Lib.hid (show cnt (hitB · k) C (i + 1) = x + 1 by rw [HNX0.out]; rfl)
              have HN1 := Lib.hid (show cnt (ltR D · k) C (i + 1) = y by rw [HNX1.out]; rfl)
              clear hlk
              go_wp2_with fail
              refine (HC0.out _).mono ?_
              rintro e w2 ⟨rfl, rfl⟩
              go_wp2_with fail
              go_quiet (first | (go_at_call 20; (with_reducible exact qs0 (HC1.out _))) | (go_at_call 19; with_reducible exact qs0 (HDR.out _)))
              go_wp2_with fail
              go_roundw
              case rel => exact ⟨i + 1, _, by omega, by rw [HN1.out], by rw [HN0.out]; go_num, by go_num, by rw [HW2.out]; exact World.drewN_drewN _ _ _⟩
              case measure => simp [intOf]; omega
            · have HN0 := Lib.hid (show cnt (hitB · k) C (i + 1) = x + 1 by rw [HNX0.out]; rfl)
              have HN1 := Lib.hid (show cnt (ltR D · k) C (i + 1) = y + 1 by rw [HNX1.out]; rfl)
              clear hlk
              go_wp2_with fail
              refine (HC0.out _).mono ?_
              rintro e w2 ⟨rfl, rfl⟩
              go_wp2_with fail
              go_quiet (first | (go_at_call 20; (with_reducible exact qs0 (HC1.out _))) | (go_at_call 19; with_reducible exact qs0 (HDR.out _)))
              go_wp2_with fail
              go_roundw
              case rel => exact ⟨i + 1, _, by omega, by rw [HN1.out]; go_num, by rw [HN0.out]; go_num, by go_num, by rw [HW2.out]; exact World.drewN_drewN _ _ _⟩
              case measure => simp [intOf]; omega
        · have him : i = m := by omega
          subst him
          have e2 : decide ((i : Int) < (i : Int)) = false := by simp
          have e2' : decide (i < i) = false := by simp
          have hg2 := (show wr.heap[w.heap.size]? = some (.cells #[.int .i64 0, .int .i64 0] 26 (0, 0)) from by rw [hw]; exact HG1.out)
          have hB2 := (show Below w.heap.size w wr from by rw [hw]; exact bdH HB1.out mk)
          have hx60 : cnt (hitB · k) C i ≤ 60 := Nat.le_trans (HC1.out i) h60
          by_cases h0 : cnt (hitB · k) C i = 0
          · have HE := Lib.hid (show shE C (k : Int) = 10 by rw [HE1.out, if_pos h0])
            have HV := Lib.hid (show shV C (k : Int) = (0, 0) from if_neg (by rw [HE.out]; decide))
            have e1 : (((cnt (hitB · k) C i : Nat) : Int) == 0) = true := by simp; omega
            have e1' : ((cnt (hitB · k) C i) == 0) = true := by simpa using h0
            clear hw hlk h0
            generalize cnt (hitB · k) C i = x at *
            generalize cnt (ltR D · k) C i = y at *
            obtain ⟨d0, f0, d1, f1, HR⟩ := put2 hg2 (.int .i64 0) (.int .i64 0)
            have BZ := Lib.hid (put2_below (W := wr) (g := w.heap.size) (.int .i64 0) (.int .i64 0) hB2 (Nat.le_refl _) (hB2).size)
            clear hg2 hB2
            go_wp2_with fail
            (try simp only [Exit.inBlock, Exit.then])
            refine bodyPost_ret (v := .tuple #[.agg #[.int .i64 0, .int .i64 0], .int .i64 10]) (results_row_tmp (p := 4) (u := 5) rfl _ _ w.heap.size 26 _ _ _ rfl HR.out Tryd.underlying26 rfl sizeRat) rfl ⟨?_, BZ.out⟩
            rw [HV.out, HE.out]; rfl
          · have HE := Lib.hid (show shE C (k : Int) = 0 by rw [HE1.out, if_neg h0])
            have HV := Lib.hid (HV1.out HE.out)
            have HF2 := Lib.hid (HF.out (by omega))
            have e1 : (((cnt (hitB · k) C i : Nat) : Int) == 0) = false := by simp; omega
            have e1' : ((cnt (hitB · k) C i) == 0) = false := by simpa using h0
            clear hw hlk h0 HF HC1
            generalize fr (cnt (ltR D · k) C i) (cnt (hitB · k) C i) = q at *
            obtain ⟨q1, q2⟩ := q
            unfold ratV at HF2
            generalize cnt (hitB · k) C i = x at *
            generalize cnt (ltR D · k) C i = y at *
            have HB3 := Lib.hid hB2
            have HG3 := Lib.hid hg2
            clear hB2 hg2
            go_wp2_with fail
            refine (HF2.out wr).mono ?_
            rintro e w4 ⟨rfl, hb4⟩
            have hg4 := (hb4.block w.heap.size (lt_of_block HG3.out)).trans HG3.out
            have hB4 := HB3.out.trans (hb4.mono HB3.out.size)
            obtain ⟨d0, f0, d1, f1, HR⟩ := put2 hg4 (.int .i64 (q1 : Int)) (.int .i64 (q2 : Int))
            have BZ := Lib.hid (put2_below (W := w4) (g := w.heap.size) (.int .i64 (q1 : Int)) (.int .i64 (q2 : Int)) hB4 (Nat.le_refl _) (hB4).size)
            clear hg4 hB4 hb4
            go_wp2_with fail
            (try simp only [Exit.inBlock, Exit.then])
            refine bodyPost_ret (v := .tuple #[.agg #[.int .i64 (q1 : Int), .int .i64 (q2 : Int)], .int .i64 0]) (results_row_tmp (p := 4) (u := 5) rfl _ _ w.heap.size 26 _ _ _ rfl HR.out Tryd.underlying26 rfl sizeRat) rfl ⟨?_, BZ.out⟩
            rw [HV.out, HE.out]; rfl
    · have HE := Lib.hid (show shE C d = 1 by rw [HE0.out, if_neg hd])
      have HV := Lib.hid (show shV C d = (0, 0) from if_neg (by rw [HE.out]; decide))
      have hb : (decide (0 ≤ d) && decide (d ≤ (D0 C : Int) - 1)) = false := by
        cases hx : (decide (0 ≤ d) && decide (d ≤ (D0 C : Int) - 1))
        · rfl
        · rw [Bool.and_eq_true, decide_eq_true_eq, decide_eq_true_eq] at hx
          omega
      rw [hb] at HWI
      clear hv hd hall hb
      generalize D0 C = D at *
      go_enter Tryd.func7, Tryd.ntmps7
      go_wp2_with fail
      rw [HW.out]
      refine HVW.out.mono ?_
      rintro e w1 ⟨rfl, m0, hw1⟩
      have hb1 : Below W.heap.size W w1 := by rw [hw1]; exact bdH (Below.refl _ _) m0
      have hB1 := hB.trans (hb1.mono hB.size)
      have hg1 := (hb1.block w.heap.size (by omega)).trans hg
      have hz1 : w.heap.size < w1.heap.size := by have := hb1.size; omega
      have R1 := Lib.hid (HRW.out.upH hb1)
      clear hw1
      go_wp2_with fail
      refine (HDO.out w1 R1.out).mono ?_
      rintro e w' ⟨rfl, rfl⟩
      go_wp2_with fail
      refine (HWI.out w1).mono ?_
      rintro e w' ⟨rfl, rfl⟩
      obtain ⟨d0, f0, d1, f1, HR⟩ := put2 hg1 (.int .i64 0) (.int .i64 0)
      have BZ := Lib.hid (put2_below (W := w1) (g := w.heap.size) (.int .i64 0) (.int .i64 0) hB1 (Nat.le_refl _) (hB1).size)
      clear hg hz hB hb1 hg1 hB1 hz1
      go_wp2_with fail
      (try simp only [Exit.inBlock, Exit.then])
      refine bodyPost_ret (v := .tuple #[.agg #[.int .i64 0, .int .i64 0], .int .i64 1]) (results_row_tmp (p := 4) (u := 5) rfl _ _ w.heap.size 26 _ _ _ rfl HR.out Tryd.underlying26 rfl sizeRat) rfl ⟨?_, BZ.out⟩
      rw [HV.out, HE.out]; rfl
  · have e1 : (vhE C != 0) = true := by simpa using hv
    have HE := Lib.hid (show shE C d = vhE C from if_neg hv)
    have HV := Lib.hid (show shV C d = (0, 0) from if_neg (by rw [HE.out]; exact hv))
    clear hv
    generalize vhE C = E at *
    go_enter Tryd.func7, Tryd.ntmps7
    go_wp2_with fail
    rw [HW.out]
    refine HVW.out.mono ?_
    rintro e w1 ⟨rfl, m0, hw1⟩
    have hb1 : Below W.heap.size W w1 := by rw [hw1]; exact bdH (Below.refl _ _) m0
    have hB1 := hB.trans (hb1.mono hB.size)
    have hg1 := (hb1.block w.heap.size (by omega)).trans hg
    have hz1 : w.heap.size < w1.heap.size := by have := hb1.size; omega
    have R1 := Lib.hid (HRW.out.upH hb1)
    clear hw1
    obtain ⟨d0, f0, d1, f1, HR⟩ := put2 hg1 (.int .i64 0) (.int .i64 0)
    have BZ := Lib.hid (put2_below (W := w1) (g := w.heap.size) (.int .i64 0) (.int .i64 0) hB1 (Nat.le_refl _) (hB1).size)
    clear hg hz hB hb1 hg1 hB1 hz1
    go_wp2_with fail
    (try simp only [Exit.inBlock, Exit.then])
    refine bodyPost_ret (v := .tuple #[.agg #[.int .i64 0, .int .i64 0], .int .i64 E]) (results_row_tmp (p := 4) (u := 5) rfl _ _ w.heap.size 26 _ _ _ rfl HR.out Tryd.underlying26 rfl sizeRat) rfl ⟨?_, BZ.out⟩
    rw [HV.out, HE.out]; rfl
end Go.Proofs.YtegehfcnclpdeaaDoor

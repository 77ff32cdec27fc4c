/-
  The share of the birds of a day that were caught later: the walks of isCaughtTillLater and Share of the program. Condition: the list can be read.
-/
import Derived.Test.YtegehfcnclpdeaaDoorHse
namespace Go.Proofs.YtegehfcnclpdeaaDoor
open Go.RowKit
set_option linter.unusedVariables false

def ltB (s : ByteArray) (d : Nat) : Bool := hitB s d && decide ((d : Int) < lD s)
theorem isLater_any (s : ByteArray) (d : Nat) (hd : d < s.size) (hs : s.size ≤ 4000000000000000000) (w : World) : Calls Tryd.prog 16 #[.string s, .int .i64 d] w fun e w' => e = .returned (.bool (ltB s d)) ∧ w = w' := by
  have H1 := Lib.hid (fun w => isCaught_any s d hd hs w)
  have H2 := Lib.hid (fun w => last_any s hs w)
  unfold ltB
  generalize hitB s d = q at *
  generalize lD s = x at *
  cases q
  · go_enter Tryd.func16, Tryd.ntmps16
    go_wp2_with fail
    refine (H1.out _).mono ?_
    rintro e w' ⟨rfl, rfl⟩
    go_wp2_with fail
    go_ret
    exact ⟨rfl, rfl⟩
  · go_enter Tryd.func16, Tryd.ntmps16
    go_wp2_with fail
    refine (H1.out _).mono ?_
    rintro e w' ⟨rfl, rfl⟩
    go_wp2_with fail
    refine (H2.out _).mono ?_
    rintro e w' ⟨rfl, rfl⟩
    go_wp2_with fail
    go_ret
    exact ⟨rfl, rfl⟩
theorem ltF {C : List ByteArray} (h : vhE C = 0) (d : Nat) (hd : d < D0 C) : IsF 16 ltB C d := fun s hs w => isLater_any s d (by have := ((vh_bird h).2 s hs).2.1; omega) (by have := ((vh_bird h).2 s hs).1; omega) w
def shE (C : List ByteArray) (d : Int) : Int := if vhE C = 0 then (if 0 ≤ d ∧ d < D0 C then (if cnt (hitB · d.toNat) C C.length = 0 then 10 else 0) else 1) else vhE C
def shV (C : List ByteArray) (d : Int) : Nat × Nat := if shE C d = 0 then fr (cnt (ltB · d.toNat) C C.length) (cnt (hitB · d.toNat) C C.length) else (0, 0)
theorem rat0s (w : World) : ∃ W, w.alloc (.cells #[.int .i64 0, .int .i64 0] 26) = W ∧ W.heap[w.heap.size]? = some (.cells #[.int .i64 0, .int .i64 0] 26 (0, 0)) ∧ W.heap.size = w.heap.size + 1 ∧ Below w.heap.size w W :=
  ⟨_, rfl, heap_alloc_new w _, by simp, (Below.refl _ _).alloc (Nat.le_refl _) _⟩
set_option maxRecDepth 8000 in
set_option maxHeartbeats 2000000 in
theorem Share_any (A : Option Addr) (cp : Nat) (C : List ByteArray) (hs : Sz C) (hl : C.length ≤ 9223372036854775807) (d : Int) (w : World) (hr : Rd w w.heap.size A (txts C)) :
    Calls Tryd.prog 6 #[.slice A C.length cp, .int .i64 d] w fun e w' => e = .returned (.tuple #[ratV (shV C d), .int .i64 (shE C d)]) ∧ Below w.heap.size w w' := by
  obtain ⟨W, hW, hg, hz, hB⟩ := rat0s w
  have HW := Lib.hid hW
  have HRW := Lib.hid (hr.upH hB)
  have HVW := Lib.hid (ValidateHistories_any A cp C hs hl W HRW.out)
  have HDO := Lib.hid (fun w h => daysOf_any A cp C hs hl w h)
  clear hW hr hs
  by_cases hv : vhE C = 0
  · rw [hv] at HVW
    obtain ⟨h60, _⟩ := vh_bird hv
    have hD := D0_le hv
    have HE0 := Lib.hid (show shE C d = if 0 ≤ d ∧ d < D0 C then (if cnt (hitB · d.toNat) C C.length = 0 then 10 else 0) else 1 from if_pos hv)
    by_cases hd : 0 ≤ d ∧ d < D0 C
    · obtain ⟨k, hk⟩ : ∃ k : Nat, d = k := ⟨d.toNat, by omega⟩
      have hdk : d.toNat = k := by omega
      have hk8 : k < D0 C := by omega
      have HB1 := Lib.hid (fun w h => birdsOn_any 14 (enters_of Tryd.func14 (by kernel_rfl) rfl) hitB A cp C h60 k (cgF hv k hk8) w h)
      have HB2 := Lib.hid (fun w h => birdsOn_any 16 (enters_of Tryd.func16 (by kernel_rfl) rfl) ltB A cp C h60 k (ltF hv k hk8) w h)
      have c1 := Nat.le_trans (cnt_le (hitB · k) C C.length) h60
      have c2 := Nat.le_trans (cnt_le (ltB · k) C C.length) h60
      have e5 : decide ((k : Int) < 0) = false := decide_eq_false (by omega)
      have e6 : decide ((D0 C : Int) ≤ (k : Int)) = false := decide_eq_false (by omega)
      have e6' : decide (D0 C ≤ k) = false := decide_eq_false (by omega)
      have HE1 := Lib.hid (show shE C d = if cnt (hitB · k) C C.length = 0 then 10 else 0 by rw [HE0.out, if_pos hd, hdk])
      subst hk
      by_cases h0 : cnt (hitB · k) C C.length = 0
      · have HE := Lib.hid (show shE C (k : Int) = 10 by rw [HE1.out, if_pos h0])
        have HV := Lib.hid (show shV C (k : Int) = (0, 0) from if_neg (by rw [HE.out]; decide))
        have e1 : (((cnt (hitB · k) C C.length : Nat) : Int) == 0) = true := by simp; omega
        have e1' : ((cnt (hitB · k) C C.length) == 0) = true := by simpa using h0
        clear hv h0 hdk hd c2 HB2 hD
        generalize D0 C = D at *
        generalize cnt (hitB · k) C C.length = s at *
        go_enter Tryd.func6, Tryd.ntmps6
        go_wp2_with fail
        rw [HW.out]
        refine HVW.out.mono ?_
        rintro e w1 ⟨rfl, hb1⟩
        have hB1 := hB.trans (hb1.mono hB.size)
        have hg1 := (hb1.block w.heap.size (by omega)).trans hg
        have hz1 : w.heap.size < w1.heap.size := by have := hb1.size; omega
        have R1 := Lib.hid (HRW.out.upH hb1)
        go_wp2_with fail
        refine (HDO.out w1 R1.out).mono ?_
        rintro e w' ⟨rfl, rfl⟩
        go_wp2_with fail
        refine (HB1.out w1 R1.out).mono ?_
        rintro e w2 ⟨rfl, hb2⟩
        have hB2 := hB1.trans (hb2.mono hB1.size)
        have hg2 := (hb2.block w.heap.size hz1).trans hg1
        obtain ⟨d0, f0, d1, f1, HR⟩ := put2 hg2 (.int .i64 0) (.int .i64 0)
        have BZ := Lib.hid (put2_below (W := w2) (g := w.heap.size) (.int .i64 0) (.int .i64 0) hB2 (Nat.le_refl _) (hB2).size)
        clear hg hz hB hb1 hg1 hB1 hz1 hb2 hB2 hg2
        go_wp2_with fail
        (try simp only [Exit.inBlock, Exit.then])
        refine bodyPost_ret (v := .tuple #[.agg #[.int .i64 0, .int .i64 0], .int .i64 10]) (results_row_tmp (p := 4) (u := 5) rfl _ _ w.heap.size 26 _ _ _ rfl HR.out Tryd.underlying26 rfl sizeRat) rfl ⟨?_, BZ.out⟩
        rw [HV.out, HE.out]; rfl
      · have HE := Lib.hid (show shE C (k : Int) = 0 by rw [HE1.out, if_neg h0])
        have HV := Lib.hid (show shV C (k : Int) = fr (cnt (ltB · k) C C.length) (cnt (hitB · k) C C.length) by unfold shV; rw [if_pos HE.out, hdk])
        have e1 : (((cnt (hitB · k) C C.length : Nat) : Int) == 0) = false := by simp; omega
        have e1' : ((cnt (hitB · k) C C.length) == 0) = false := by simpa using h0
        have HF := Lib.hid (fun w => fraction_any (cnt (ltB · k) C C.length) (cnt (hitB · k) C C.length) (by omega) (by omega) (by omega) w)
        clear hv h0 hdk hd hD c1 c2
        generalize fr (cnt (ltB · k) C C.length) (cnt (hitB · k) C C.length) = q at *
        obtain ⟨q1, q2⟩ := q
        unfold ratV at HF
        generalize D0 C = D at *
        generalize cnt (hitB · k) C C.length = s at *
        generalize cnt (ltB · k) C C.length = t at *
        go_enter Tryd.func6, Tryd.ntmps6
        go_wp2_with fail
        rw [HW.out]
        refine HVW.out.mono ?_
        rintro e w1 ⟨rfl, hb1⟩
        have hB1 := hB.trans (hb1.mono hB.size)
        have hg1 := (hb1.block w.heap.size (by omega)).trans hg
        have hz1 : w.heap.size < w1.heap.size := by have := hb1.size; omega
        have R1 := Lib.hid (HRW.out.upH hb1)
        go_wp2_with fail
        refine (HDO.out w1 R1.out).mono ?_
        rintro e w' ⟨rfl, rfl⟩
        go_wp2_with fail
        refine (HB1.out w1 R1.out).mono ?_
        rintro e w2 ⟨rfl, hb2⟩
        have R2 := Lib.hid (R1.out.upH hb2)
        have HB22 := Lib.hid (hB1.trans (hb2.mono hB1.size))
        have HG2 := Lib.hid ((hb2.block w.heap.size hz1).trans hg1)
        clear hg hz hB hb1 hg1 hB1 hz1 hb2
        go_wp2_with fail
        refine (HB2.out w2 R2.out).mono ?_
        rintro e w3 ⟨rfl, hb3⟩
        have HB3 := Lib.hid (HB22.out.trans (hb3.mono HB22.out.size))
        have HG3 := Lib.hid ((hb3.block w.heap.size (lt_of_block HG2.out)).trans HG2.out)
        clear hb3
        go_wp2_with fail
        refine (HF.out w3).mono ?_
        rintro e w4 ⟨rfl, hb4⟩
        have hg4 := (hb4.block w.heap.size (lt_of_block HG3.out)).trans HG3.out
        have hB4 := HB3.out.trans (hb4.mono HB3.out.size)
        obtain ⟨d0, f0, d1, f1, HR⟩ := put2 hg4 (.int .i64 (q1 : Int)) (.int .i64 (q2 : Int))
        have BZ := Lib.hid (put2_below (W := w4) (g := w.heap.size) (.int .i64 (q1 : Int)) (.int .i64 (q2 : Int)) hB4 (Nat.le_refl _) (hB4).size)
        clear hg4 hB4 hb4
        go_wp2_with fail
        (try simp only [Exit.inBlock, Exit.then])
        refine bodyPost_ret (v := .tuple #[.agg #[.int .i64 (q1 : Int), .int .i64 (q2 : Int)], .int .i64 0]) (results_row_tmp (p := 4) (u := 5) rfl _ _ w.heap.size 26 _ _ _ rfl HR.out Tryd.underlying26 rfl sizeRat) rfl ⟨?_, BZ.out⟩
        rw [HV.out, HE.out]; rfl
    · have HE := Lib.hid (show shE C d = 1 by rw [HE0.out, if_neg hd])
      have HV := Lib.hid (show shV C d = (0, 0) from if_neg (by rw [HE.out]; decide))
      by_cases hn : d < 0
      · have e5 : decide (d < 0) = true := by simpa using hn
        clear hv hd hn hD
        go_enter Tryd.func6, Tryd.ntmps6
        go_wp2_with fail
        rw [HW.out]
        refine HVW.out.mono ?_
        rintro e w1 ⟨rfl, hb1⟩
        have hB1 := hB.trans (hb1.mono hB.size)
        have hg1 := (hb1.block w.heap.size (by omega)).trans hg
        obtain ⟨d0, f0, d1, f1, HR⟩ := put2 hg1 (.int .i64 0) (.int .i64 0)
        have BZ := Lib.hid (put2_below (W := w1) (g := w.heap.size) (.int .i64 0) (.int .i64 0) hB1 (Nat.le_refl _) (hB1).size)
        clear hg hz hB hb1 hg1 hB1
        go_wp2_with fail
        (try simp only [Exit.inBlock, Exit.then])
        refine bodyPost_ret (v := .tuple #[.agg #[.int .i64 0, .int .i64 0], .int .i64 1]) (results_row_tmp (p := 4) (u := 5) rfl _ _ w.heap.size 26 _ _ _ rfl HR.out Tryd.underlying26 rfl sizeRat) rfl ⟨?_, BZ.out⟩
        rw [HV.out, HE.out]; rfl
      · have e5 : decide (d < 0) = false := by simpa using hn
        have e6 : decide ((D0 C : Int) ≤ d) = true := by simp; omega
        clear hv hd hn hD
        generalize D0 C = D at *
        go_enter Tryd.func6, Tryd.ntmps6
        go_wp2_with fail
        rw [HW.out]
        refine HVW.out.mono ?_
        rintro e w1 ⟨rfl, hb1⟩
        have hB1 := hB.trans (hb1.mono hB.size)
        have hg1 := (hb1.block w.heap.size (by omega)).trans hg
        have R1 := Lib.hid (HRW.out.upH hb1)
        go_wp2_with fail
        refine (HDO.out w1 R1.out).mono ?_
        rintro e w' ⟨rfl, rfl⟩
        obtain ⟨d0, f0, d1, f1, HR⟩ := put2 hg1 (.int .i64 0) (.int .i64 0)
        have BZ := Lib.hid (put2_below (W := w1) (g := w.heap.size) (.int .i64 0) (.int .i64 0) hB1 (Nat.le_refl _) (hB1).size)
        clear hg hz hB hb1 hg1 hB1
        go_wp2_with fail
        (try simp only [Exit.inBlock, Exit.then])
        refine bodyPost_ret (v := .tuple #[.agg #[.int .i64 0, .int .i64 0], .int .i64 1]) (results_row_tmp (p := 4) (u := 5) rfl _ _ w.heap.size 26 _ _ _ rfl HR.out Tryd.underlying26 rfl sizeRat) rfl ⟨?_, BZ.out⟩
        rw [HV.out, HE.out]; rfl
  · have e1 : (vhE C != 0) = true := by simpa using hv
    have HE := Lib.hid (show shE C d = vhE C from if_neg hv)
    have HV := Lib.hid (show shV C d = (0, 0) from if_neg (by rw [HE.out]; exact hv))
    clear hv
    generalize vhE C = E at *
    go_enter Tryd.func6, Tryd.ntmps6
    go_wp2_with fail
    rw [HW.out]
    refine HVW.out.mono ?_
    rintro e w1 ⟨rfl, hb1⟩
    have hB1 := hB.trans (hb1.mono hB.size)
    have hg1 := (hb1.block w.heap.size (by omega)).trans hg
    obtain ⟨d0, f0, d1, f1, HR⟩ := put2 hg1 (.int .i64 0) (.int .i64 0)
    have BZ := Lib.hid (put2_below (W := w1) (g := w.heap.size) (.int .i64 0) (.int .i64 0) hB1 (Nat.le_refl _) (hB1).size)
    clear hg hz hB hb1 hg1 hB1
    go_wp2_with fail
    (try simp only [Exit.inBlock, Exit.then])
    refine bodyPost_ret (v := .tuple #[.agg #[.int .i64 0, .int .i64 0], .int .i64 E]) (results_row_tmp (p := 4) (u := 5) rfl _ _ w.heap.size 26 _ _ _ rfl HR.out Tryd.underlying26 rfl sizeRat) rfl ⟨?_, BZ.out⟩
    rw [HV.out, HE.out]; rfl
end Go.Proofs.YtegehfcnclpdeaaDoor

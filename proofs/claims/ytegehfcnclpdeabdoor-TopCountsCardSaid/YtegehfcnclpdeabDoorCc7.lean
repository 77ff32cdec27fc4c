/-
  Odds and Chapman of the program, recaptured and Chapman of the reference: the walks. Every argument.
-/
import Derived.Test.YtegehfcnclpdeabDoorCc5
namespace Go.Proofs.YtegehfcnclpdeabDoor
open Go.RowKit
set_option linter.unusedVariables false

theorem wy_ne {n m c a : Nat} (h : wy n m c a ≠ 0) : a ≤ c ∧ a ≤ m ∧ c - a ≤ n - m := by
  unfold wy at h
  split at h
  · rename_i h1
    refine ⟨h1, ?_, ?_⟩
    · rcases Nat.lt_or_ge m a with h2 | h2
      · rw [ch_gt h2, Nat.zero_mul] at h; exact absurd rfl h
      · exact h2
    · rcases Nat.lt_or_ge (n - m) (c - a) with h2 | h2
      · rw [ch_gt h2, Nat.mul_zero] at h; exact absurd rfl h
      · exact h2
  · exact absurd rfl h
def odE (b m c a : Int) : Int := if allB [b, m, c, a] = true then (if b - 1 < m ∨ b - 1 < c then 8 else if wN (b - 1).toNat m.toNat c.toNat a.toNat = 0 then 10 else 0) else 1
def odV (b m c a : Int) : Nat × Nat := if odE b m c a = 0 then fr ((b - m) * (b - c)).toNat (b * (b - m - c + a)).toNat else (0, 0)
theorem odE_ok {b m c a : Int} (h : odE b m c a = 0) : ((0 ≤ b ∧ b ≤ 60) ∧ (0 ≤ m ∧ m ≤ 60) ∧ (0 ≤ c ∧ c ≤ 60) ∧ (0 ≤ a ∧ a ≤ 60)) ∧ m ≤ b - 1 ∧ c ≤ b - 1 ∧ a ≤ c ∧ a ≤ m ∧ m + c ≤ b - 1 + a ∧ wN (b - 1).toNat m.toNat c.toNat a.toNat ≠ 0 := by
  unfold odE at h
  split at h
  · rename_i hv
    obtain ⟨hb, hm, hc, ha⟩ := allB4 hv
    refine ⟨⟨hb, hm, hc, ha⟩, ?_⟩
    split at h
    · cases h
    · split at h
      · cases h
      · rename_i h1 h2
        have h3 := h2
        rw [wN_fit (by omega) (by omega)] at h3
        obtain ⟨k1, k2, k3⟩ := wy_ne h3
        exact ⟨by omega, by omega, by omega, by omega, by omega, h2⟩
  · cases h
theorem od_bounds {b m c a : Int} (hb : 0 ≤ b ∧ b ≤ 60) (hm : 0 ≤ m) (hc : 0 ≤ c) (h1 : m ≤ b - 1) (h2 : c ≤ b - 1) (h3 : m + c ≤ b - 1 + a) (h4 : a ≤ m) (h5 : a ≤ c) : (0 < (b - m) * (b - c) ∧ (b - m) * (b - c) ≤ 3600) ∧ 0 < b * (b - m - c + a) ∧ b * (b - m - c + a) ≤ 3600 := by
  have k1 : 0 < (b - m) * (b - c) := Int.mul_pos (by omega) (by omega)
  have k2 : (b - m) * (b - c) ≤ 60 * 60 := Int.mul_le_mul (by omega) (by omega) (by omega) (by omega)
  have k3 : 0 < b * (b - m - c + a) := Int.mul_pos (by omega) (by omega)
  have k4 : b * (b - m - c + a) ≤ 60 * 60 := Int.mul_le_mul (by omega) (by omega) (by omega) (by omega)
  omega
theorem rat0 (w : World) : ∃ W, w.alloc (.cells #[.int .i64 0, .int .i64 0] 31) = W ∧ W.heap[w.heap.size]? = some (.cells #[.int .i64 0, .int .i64 0] 31 (0, 0)) ∧ W.heap.size = w.heap.size + 1 ∧ Below w.heap.size w W :=
  ⟨_, rfl, heap_alloc_new w _, by simp, (Below.refl _ _).alloc (Nat.le_refl _) _⟩
theorem box_lit (w : World) (b m c a : Int) : ((w.alloc (.cells #[.int .i64 b, .int .i64 m, .int .i64 c, .int .i64 a] 47)).cell? ⟨w.heap.size, 0, none⟩ = some (.int .i64 b) ∧ (w.alloc (.cells #[.int .i64 b, .int .i64 m, .int .i64 c, .int .i64 a] 47)).cell? ⟨w.heap.size, 1, none⟩ = some (.int .i64 m) ∧ (w.alloc (.cells #[.int .i64 b, .int .i64 m, .int .i64 c, .int .i64 a] 47)).cell? ⟨w.heap.size, 2, none⟩ = some (.int .i64 c) ∧ (w.alloc (.cells #[.int .i64 b, .int .i64 m, .int .i64 c, .int .i64 a] 47)).cell? ⟨w.heap.size, 3, none⟩ = some (.int .i64 a)) ∧ Below w.heap.size w (w.alloc (.cells #[.int .i64 b, .int .i64 m, .int .i64 c, .int .i64 a] 47)) := by
  obtain ⟨c0, c1, c2, c3, hb⟩ := box_rc w b m c a 47
  exact ⟨⟨c0, c1, c2, c3⟩, hb⟩
set_option maxRecDepth 4000 in
set_option maxHeartbeats 2000000 in
theorem Odds_any (b m c a : Int) (w : World) : Calls Tryd.prog 6 #[.int .i64 b, .int .i64 m, .int .i64 c, .int .i64 a] w fun e w' => e = .returned (.tuple #[ratV (odV b m c a), .int .i64 (odE b m c a)]) ∧ Below w.heap.size w w' := by
  obtain ⟨W, hW, hg, hz, hB⟩ := rat0 w
  have HW := Lib.hid hW
  have HA := nums4 b m c a W
  rw [hz] at HA
  have HAA := Lib.hid HA
  clear hW HA
  cases hv : allB [b, m, c, a]
  · rw [hv] at HAA
    have HE := Lib.hid (show odE b m c a = 1 by unfold odE; rw [hv]; rfl)
    have HV := Lib.hid (show odV b m c a = (0, 0) from if_neg (by rw [HE.out]; decide))
    clear hv
    rw [← hz] at HAA
    go_enter Tryd.func6, Tryd.ntmps6
    go_wp2_with fail
    rw [HW.out, ← hz]
    refine HAA.out.mono ?_
    rintro e w1 ⟨rfl, hb1⟩
    have hB1 := hB.trans (hb1.mono hB.size)
    have hg1 := (hb1.block w.heap.size (by omega)).trans hg
    have hz1 : w.heap.size < w1.heap.size := by have := hb1.size; omega
    obtain ⟨d0, f0, d1, f1, HR⟩ := put2 hg1 (.int .i64 0) (.int .i64 0)
    have BZ := Lib.hid (put2_below (W := w1) (g := w.heap.size) (.int .i64 0) (.int .i64 0) hB1 (Nat.le_refl _) (hB1).size)
    clear hg hz hB hb1 hg1 hB1 hz1
    go_wp2_with fail
    (try simp only [Exit.inBlock, Exit.then])
    refine bodyPost_ret (v := .tuple #[.agg #[.int .i64 0, .int .i64 0], .int .i64 1]) (results_row_tmp (p := 8) (u := 9) rfl _ _ w.heap.size 31 _ _ _ rfl HR.out Tryd.underlying31 rfl sizeRat) rfl ⟨?_, BZ.out⟩
    rw [HV.out, HE.out]; rfl
  · rw [hv] at HAA
    rw [← hz] at HAA
    obtain ⟨⟨bb0, bb1⟩, ⟨mm0, mm1⟩, ⟨cc0, cc1⟩, aa0, aa1⟩ := allB4 hv
    have HE0 := Lib.hid (show odE b m c a = if b - 1 < m ∨ b - 1 < c then 8 else if wN (b - 1).toNat m.toNat c.toNat a.toNat = 0 then 10 else 0 by unfold odE; rw [hv]; rfl)
    clear hv
    cases e1 : decide (b - 1 < m)
    · cases e2 : decide (b - 1 < c)
      · have k1 := of_decide_eq_false e1
        have k2 := of_decide_eq_false e2
        have HWy := Lib.hid (fun w => ways_any (b - 1).toNat m.toNat c.toNat a.toNat (by omega) (by omega) (by omega) (by omega) w)
        rw [show (((b - 1).toNat : Nat) : Int) = b - 1 by omega, show ((m.toNat : Nat) : Int) = m by omega, show ((c.toNat : Nat) : Int) = c by omega, show ((a.toNat : Nat) : Int) = a by omega] at HWy
        by_cases hx : wN (b - 1).toNat m.toNat c.toNat a.toNat = 0
        · have HE := Lib.hid (show odE b m c a = 10 by rw [HE0.out, if_neg (by omega), if_pos hx])
          have HV := Lib.hid (show odV b m c a = (0, 0) from if_neg (by rw [HE.out]; decide))
          rw [hx] at HWy
          clear hx k1 k2
          go_enter Tryd.func6, Tryd.ntmps6
          go_wp2_with fail
          rw [HW.out, ← hz]
          refine HAA.out.mono ?_
          rintro e w1 ⟨rfl, hb1⟩
          have hB1 := hB.trans (hb1.mono hB.size)
          have hg1 := (hb1.block w.heap.size (by omega)).trans hg
          have hz1 : w.heap.size < w1.heap.size := by have := hb1.size; omega
          obtain ⟨⟨c0, c1, c2, c3⟩, hb2⟩ := box_lit w1 (b - 1) m c a
          have hB2 := hB1.trans (hb2.mono hB1.size)
          have hg2 := (hb2.block w.heap.size hz1).trans hg1
          go_wp2_with fail
          refine (HWy.out _).mono ?_
          rintro e w3 ⟨rfl, hb3⟩
          have hB3 := hB2.trans (hb3.mono hB2.size)
          have hg3 := (hb3.block w.heap.size (Nat.lt_of_lt_of_le hz1 hb2.size)).trans hg2
          obtain ⟨d0, f0, d1, f1, HR⟩ := put2 hg3 (.int .i64 0) (.int .i64 0)
          have BZ := Lib.hid (put2_below (W := w3) (g := w.heap.size) (.int .i64 0) (.int .i64 0) hB3 (Nat.le_refl _) (hB3).size)
          clear hg hz hB hb1 hg1 hB1 hz1 c0 c1 c2 c3 hb2 hB2 hg2 hb3 hB3 hg3 e1 e2
          go_wp2_with fail
          (try simp only [Exit.inBlock, Exit.then])
          refine bodyPost_ret (v := .tuple #[.agg #[.int .i64 0, .int .i64 0], .int .i64 10]) (results_row_tmp (p := 8) (u := 9) rfl _ _ w.heap.size 31 _ _ _ rfl HR.out Tryd.underlying31 rfl sizeRat) rfl ⟨?_, BZ.out⟩
          rw [HV.out, HE.out]; rfl
        · have HE := Lib.hid (show odE b m c a = 0 by rw [HE0.out, if_neg (by omega), if_neg hx])
          have HV := Lib.hid (show odV b m c a = fr ((b - m) * (b - c)).toNat (b * (b - m - c + a)).toNat from if_pos HE.out)
          obtain ⟨_, _, _, j1, j2, j3, _⟩ := odE_ok HE.out
          obtain ⟨⟨n1, n2⟩, n3, n4⟩ := od_bounds ⟨bb0, bb1⟩ mm0 cc0 (by omega) (by omega) j3 j2 j1
          have HX := Lib.hid (fun w => fraction_any ((b - m) * (b - c)).toNat (b * (b - m - c + a)).toNat (by omega) (by omega) (by omega) w)
          rw [show ((((b - m) * (b - c)).toNat : Nat) : Int) = (b - m) * (b - c) by omega, show (((b * (b - m - c + a)).toNat : Nat) : Int) = b * (b - m - c + a) by omega] at HX
          generalize fr ((b - m) * (b - c)).toNat (b * (b - m - c + a)).toNat = q at *
          obtain ⟨q1, q2⟩ := q
          unfold ratV at HX
          have hxx : ((wN (b - 1).toNat m.toNat c.toNat a.toNat : Nat) : Int) ≠ 0 := by omega
          generalize wN (b - 1).toNat m.toNat c.toNat a.toNat = x at *
          have e3 : ((x : Int) == 0) = false := by simpa using hxx
          have e3' : (x == 0) = false := by simpa using hx
          clear hx hxx k1 k2
          go_enter Tryd.func6, Tryd.ntmps6
          go_wp2_with fail
          rw [HW.out, ← hz]
          refine HAA.out.mono ?_
          rintro e w1 ⟨rfl, hb1⟩
          have hB1 := hB.trans (hb1.mono hB.size)
          have hg1 := (hb1.block w.heap.size (by omega)).trans hg
          have hz1 : w.heap.size < w1.heap.size := by have := hb1.size; omega
          obtain ⟨⟨c0, c1, c2, c3⟩, hb2⟩ := box_lit w1 (b - 1) m c a
          have hB2 := hB1.trans (hb2.mono hB1.size)
          have hg2 := (hb2.block w.heap.size hz1).trans hg1
          go_wp2_with fail
          refine (HWy.out _).mono ?_
          rintro e w3 ⟨rfl, hb3⟩
          have HB3 := Lib.hid (hB2.trans (hb3.mono hB2.size))
          have HG3 := Lib.hid ((hb3.block w.heap.size (Nat.lt_of_lt_of_le hz1 hb2.size)).trans hg2)
          have HZ3 := Lib.hid (show w.heap.size < w3.heap.size from Nat.lt_of_lt_of_le hz1 (Nat.le_trans hb2.size hb3.size))
          clear hg hz hB hb1 hg1 hB1 hz1 c0 c1 c2 c3 hb2 hB2 hg2 hb3 e1 e2
          go_wp2_with fail
          refine (HX.out w3).mono ?_
          rintro e w4 ⟨rfl, hb4⟩
          have hg4 := (hb4.block w.heap.size HZ3.out).trans HG3.out
          have hB4 := HB3.out.trans (hb4.mono HB3.out.size)
          obtain ⟨d0, f0, d1, f1, HR⟩ := put2 hg4 (.int .i64 (q1 : Int)) (.int .i64 (q2 : Int))
          have BZ := Lib.hid (put2_below (W := w4) (g := w.heap.size) (.int .i64 (q1 : Int)) (.int .i64 (q2 : Int)) hB4 (Nat.le_refl _) (hB4).size)
          clear hg4 hB4 hb4
          go_wp2_with fail
          (try simp only [Exit.inBlock, Exit.then])
          refine bodyPost_ret (v := .tuple #[.agg #[.int .i64 (q1 : Int), .int .i64 (q2 : Int)], .int .i64 0]) (results_row_tmp (p := 8) (u := 9) rfl _ _ w.heap.size 31 _ _ _ rfl HR.out Tryd.underlying31 rfl sizeRat) rfl ⟨?_, BZ.out⟩
          rw [HV.out, HE.out]; rfl
      · have HE := Lib.hid (show odE b m c a = 8 by rw [HE0.out, if_pos (.inr (of_decide_eq_true e2))])
        have HV := Lib.hid (show odV b m c a = (0, 0) from if_neg (by rw [HE.out]; decide))
        go_enter Tryd.func6, Tryd.ntmps6
        go_wp2_with fail
        rw [HW.out, ← hz]
        refine HAA.out.mono ?_
        rintro e w1 ⟨rfl, hb1⟩
        have hB1 := hB.trans (hb1.mono hB.size)
        have hg1 := (hb1.block w.heap.size (by omega)).trans hg
        have hz1 : w.heap.size < w1.heap.size := by have := hb1.size; omega
        obtain ⟨⟨c0, c1, c2, c3⟩, hb2⟩ := box_lit w1 (b - 1) m c a
        have hB2 := hB1.trans (hb2.mono hB1.size)
        have hg2 := (hb2.block w.heap.size hz1).trans hg1
        obtain ⟨d0, f0, d1, f1, HR⟩ := put2 hg2 (.int .i64 0) (.int .i64 0)
        have BZ := Lib.hid (put2_below (W := (w1.alloc (.cells #[.int .i64 (b - 1), .int .i64 m, .int .i64 c, .int .i64 a] 47))) (g := w.heap.size) (.int .i64 0) (.int .i64 0) hB2 (Nat.le_refl _) (hB2).size)
        clear hg hz hB hb1 hg1 hB1 hz1 hb2 hB2 hg2
        go_wp2_with fail
        (try simp only [Exit.inBlock, Exit.then])
        refine bodyPost_ret (v := .tuple #[.agg #[.int .i64 0, .int .i64 0], .int .i64 8]) (results_row_tmp (p := 8) (u := 9) rfl _ _ w.heap.size 31 _ _ _ rfl HR.out Tryd.underlying31 rfl sizeRat) rfl ⟨?_, BZ.out⟩
        rw [HV.out, HE.out]; rfl
    · have HE := Lib.hid (show odE b m c a = 8 by rw [HE0.out, if_pos (.inl (of_decide_eq_true e1))])
      have HV := Lib.hid (show odV b m c a = (0, 0) from if_neg (by rw [HE.out]; decide))
      go_enter Tryd.func6, Tryd.ntmps6
      go_wp2_with fail
      rw [HW.out, ← hz]
      refine HAA.out.mono ?_
      rintro e w1 ⟨rfl, hb1⟩
      have hB1 := hB.trans (hb1.mono hB.size)
      have hg1 := (hb1.block w.heap.size (by omega)).trans hg
      have hz1 : w.heap.size < w1.heap.size := by have := hb1.size; omega
      obtain ⟨⟨c0, c1, c2, c3⟩, hb2⟩ := box_lit w1 (b - 1) m c a
      have hB2 := hB1.trans (hb2.mono hB1.size)
      have hg2 := (hb2.block w.heap.size hz1).trans hg1
      obtain ⟨d0, f0, d1, f1, HR⟩ := put2 hg2 (.int .i64 0) (.int .i64 0)
      have BZ := Lib.hid (put2_below (W := (w1.alloc (.cells #[.int .i64 (b - 1), .int .i64 m, .int .i64 c, .int .i64 a] 47))) (g := w.heap.size) (.int .i64 0) (.int .i64 0) hB2 (Nat.le_refl _) (hB2).size)
      clear hg hz hB hb1 hg1 hB1 hz1 hb2 hB2 hg2
      go_wp2_with fail
      (try simp only [Exit.inBlock, Exit.then])
      refine bodyPost_ret (v := .tuple #[.agg #[.int .i64 0, .int .i64 0], .int .i64 8]) (results_row_tmp (p := 8) (u := 9) rfl _ _ w.heap.size 31 _ _ _ rfl HR.out Tryd.underlying31 rfl sizeRat) rfl ⟨?_, BZ.out⟩
      rw [HV.out, HE.out]; rfl
def cpE (m c a : Int) : Int := if allB [m, c, a] = true then (if fitB m c a = true then 0 else 8) else 1
def cpV (m c a : Int) : Nat × Nat := if cpE m c a = 0 then fr ((m + 1) * (c + 1) - (a + 1)).toNat (a + 1).toNat else (0, 0)
theorem cp_bounds {m c a : Int} (hm : 0 ≤ m ∧ m ≤ 60) (hc : 0 ≤ c ∧ c ≤ 60) (ha : 0 ≤ a) (h : a ≤ m) : 0 ≤ (m + 1) * (c + 1) - (a + 1) ∧ (m + 1) * (c + 1) ≤ 3721 := by
  have k1 : (m + 1) * 1 ≤ (m + 1) * (c + 1) := Int.mul_le_mul_of_nonneg_left (by omega) (by omega)
  have k2 : (m + 1) * (c + 1) ≤ 61 * 61 := Int.mul_le_mul (by omega) (by omega) (by omega) (by omega)
  omega
end Go.Proofs.YtegehfcnclpdeabDoor

/-
  Which numbers of birds are possible: theory and the program's walk of Possible. Every argument.
-/
import Derived.Test.YtgpghnhpbjnhkaaCd1
import Derived.Deep.RegionLaw
namespace Go.Proofs.Ytgpghnhpbjnhkaa
open Go.RowKit
set_option linter.unusedVariables false

theorem eInt : Elem Try.prog 39 3 (.int .i64 0) 1 8 := ⟨Try.underlying39, by kernel_rfl, rfl, by decide, by decide⟩
def poB (m c a ln ld n : Nat) : Bool := decide (ln * ch n c < upW n m c (a + 1) * ld) && decide (ln * ch n c < (ch n c - upW n m c a) * ld)
def poS (n m c a ln ld k : Nat) : List Int := ((List.range k).filter fun i => poB m c a ln ld (n + i)).map fun i => ((n + i : Nat) : Int)
theorem poS_yes {n m c a ln ld k : Nat} (h : poB m c a ln ld (n + k) = true) : poS n m c a ln ld (k + 1) = poS n m c a ln ld k ++ [((n + k : Nat) : Int)] := by
  unfold poS
  rw [List.range_succ, List.filter_append, List.map_append]
  simp [h]
theorem poS_no {n m c a ln ld k : Nat} (h : poB m c a ln ld (n + k) = false) : poS n m c a ln ld (k + 1) = poS n m c a ln ld k := by
  unfold poS
  rw [List.range_succ, List.filter_append, List.map_append]
  simp [h]
theorem poS_le (n m c a ln ld k : Nat) : (poS n m c a ln ld k).length ≤ k := by
  unfold poS
  rw [List.length_map]
  have := List.length_filter_le (fun i => poB m c a ln ld (n + i)) (List.range k)
  simpa using this
def poE (m c a ln ld : Int) : Int := if allB [m, c, a] = true ∧ lvB ln ld = true then (if fitB m c a = true then 0 else 8) else 1
def poL (m c a ln ld : Int) : List Int := if poE m c a ln ld = 0 then poS (m + c - a).toNat m.toNat c.toNat a.toNat ln.toNat ld.toNat (61 - (m + c - a).toNat) else []
theorem cmpN_pos (x y : Nat) : decide (0 < cmpN x y) = decide (y < x) := by
  unfold cmpN
  rw [decide_eq_decide]
  split
  · omega
  · split <;> omega
theorem po_most {n m c a ln ld : Nat} (hc : c ≤ n) : decide (0 < cmpN ((amN n m c (a + 1)).1 * ld) (ln * (amN n m c (a + 1)).2)) = decide (ln * ch n c < upW n m c (a + 1) * ld) := by
  rw [cmpN_pos, decide_eq_decide]
  exact fr_lt_l (ch_pos hc)
theorem po_least {n m c a ln ld : Nat} (hm : m ≤ n) (hc : c ≤ n) : decide (0 < cmpN ((alN n m c a).1 * ld) (ln * (alN n m c a).2)) = decide (ln * ch n c < (ch n c - upW n m c a) * ld) := by
  rw [cmpN_pos, decide_eq_decide]
  exact fr_rest (ch_pos hc) (upW_le hm a)
def PoPost (m c a ln ld : Int) (w : World) (e : Ending) (w' : World) : Prop :=
  ∃ A' c', e = .returned (.tuple #[.slice A' (poL m c a ln ld).length c', .int .i64 (poE m c a ln ld)]) ∧ Rd w' w'.heap.size A' (ints (poL m c a ln ld)) ∧ Below w.heap.size w w'
theorem po_none {m c a ln ld : Int} (h : poE m c a ln ld ≠ 0) : poL m c a ln ld = [] := if_neg h
theorem lv_bounds {n d : Int} (h : lvB n d = true) : (1 ≤ d ∧ d ≤ 1000) ∧ 0 ≤ n ∧ n ≤ d := by
  unfold lvB at h
  simp only [Bool.and_eq_true, decide_eq_true_eq] at h
  exact ⟨h.1, h.2.1⟩
set_option maxRecDepth 20000 in
set_option maxHeartbeats 4000000 in
theorem Possible_any (m c a ln ld : Int) (w : World) : Calls Try.prog 31 #[.int .i64 m, .int .i64 c, .int .i64 a, .agg (rt ln ld)] w fun e w' => PoPost m c a ln ld w e w' := by
  obtain ⟨l0, l1, hl⟩ := box_rt w ln ld 31
  have hsz : (w.alloc (.cells (rt ln ld) 31)).heap.size = w.heap.size + 1 := by simp
  obtain ⟨W, hW⟩ : ∃ W, w.alloc (.cells (rt ln ld) 31) = W := ⟨_, rfl⟩
  rw [hW] at l0 l1 hl hsz
  have HA := nums3 m c a W
  rw [hsz] at HA
  have HAA := Lib.hid HA
  have HW := Lib.hid hW
  have HLV := Lib.hid (fun w => isLevel_any ln ld w)
  have HBW := Lib.hid hl
  have HL0 := Lib.hid l0
  have HL1 := Lib.hid l1
  have HSZ := Lib.hid hsz
  clear HA l0 l1 hl hsz hW
  cases hv : allB [m, c, a]
  · rw [hv] at HAA
    have HE := Lib.hid (show poE m c a ln ld = 1 from if_neg (by rw [hv]; simp))
    clear hv
    go_enter Try.func31, Try.ntmps31
    go_wp2_with fail
    rw [HW.out]
    refine HAA.out.mono ?_
    rintro e w1 ⟨rfl, hb⟩
    have B1 := Lib.hid (HBW.out.trans (hb.mono (Nat.le_succ _)))
    have l0 := cell_keep HL0.out hb (Nat.lt_succ_self _)
    have l1 := cell_keep HL1.out hb (Nat.lt_succ_self _)
    have hlt : w.heap.size < w1.heap.size := by have := hb.size; have := HSZ.out; omega
    clear hb
    clear l0 l1 hlt
    go_wp2_with fail
    go_ret2
    have hL := po_none (m := m) (c := c) (a := a) (ln := ln) (ld := ld) (by rw [HE.out]; decide)
    exact ⟨none, 0, by rw [hL, HE.out]; rfl, by rw [hL]; exact Rd.nil_, B1.out⟩
  · rw [hv] at HAA
    cases hlv : lvB ln ld
    · rw [hlv] at HLV
      have HE := Lib.hid (show poE m c a ln ld = 1 from if_neg (by rw [hlv]; simp))
      clear hv hlv
      go_enter Try.func31, Try.ntmps31
      go_wp2_with fail
      rw [HW.out]
      refine HAA.out.mono ?_
      rintro e w1 ⟨rfl, hb⟩
      have B1 := Lib.hid (HBW.out.trans (hb.mono (Nat.le_succ _)))
      have l0 := cell_keep HL0.out hb (Nat.lt_succ_self _)
      have l1 := cell_keep HL1.out hb (Nat.lt_succ_self _)
      have hlt : w.heap.size < w1.heap.size := by have := hb.size; have := HSZ.out; omega
      clear hb
      go_wp2_with fail
      refine (HLV.out w1).mono ?_
      rintro e w2 ⟨rfl, hb⟩
      have B2 := Lib.hid (B1.out.trans (hb.mono B1.out.size))
      have m0 := cell_keep l0 hb hlt
      have m1 := cell_keep l1 hb hlt
      have hlt2 : w.heap.size < w2.heap.size := Nat.lt_of_lt_of_le hlt hb.size
      clear hb l0 l1 hlt
      clear m0 m1 hlt2
      go_wp2_with fail
      go_ret2
      have hL := po_none (m := m) (c := c) (a := a) (ln := ln) (ld := ld) (by rw [HE.out]; decide)
      exact ⟨none, 0, by rw [hL, HE.out]; rfl, by rw [hL]; exact Rd.nil_, B2.out⟩
    · rw [hlv] at HLV
      have HE0 := Lib.hid (show poE m c a ln ld = if fitB m c a = true then 0 else 8 from if_pos ⟨hv, hlv⟩)
      obtain ⟨⟨mm0, mm1⟩, ⟨cc0, cc1⟩, aa0, aa1⟩ := allB3 hv
      obtain ⟨⟨ld1, ld2⟩, ln0, ln1⟩ := lv_bounds hlv
      have HFt := Lib.hid (fun w => fits_any 0 m c a w)
      clear hv hlv
      cases hf : fitB m c a
      · rw [hf] at HFt
        have HE := Lib.hid (show poE m c a ln ld = 8 by rw [HE0.out, hf]; rfl)
        clear hf
        go_enter Try.func31, Try.ntmps31
        go_wp2_with fail
        rw [HW.out]
        refine HAA.out.mono ?_
        rintro e w1 ⟨rfl, hb⟩
        have B1 := Lib.hid (HBW.out.trans (hb.mono (Nat.le_succ _)))
        have l0 := cell_keep HL0.out hb (Nat.lt_succ_self _)
        have l1 := cell_keep HL1.out hb (Nat.lt_succ_self _)
        have hlt : w.heap.size < w1.heap.size := by have := hb.size; have := HSZ.out; omega
        clear hb
        go_wp2_with fail
        refine (HLV.out w1).mono ?_
        rintro e w2 ⟨rfl, hb⟩
        have B2 := Lib.hid (B1.out.trans (hb.mono B1.out.size))
        have m0 := cell_keep l0 hb hlt
        have m1 := cell_keep l1 hb hlt
        have hlt2 : w.heap.size < w2.heap.size := Nat.lt_of_lt_of_le hlt hb.size
        clear hb l0 l1 hlt
        obtain ⟨⟨c0, c1, c2, c3⟩, hb3⟩ := box_c1 w2 m c a
        have B3 := Lib.hid (B2.out.trans (hb3.mono B2.out.size))
        have n0 := cell_up (o := .cells #[.int .i64 0, .int .i64 m, .int .i64 c, .int .i64 a] 51) m0
        have n1 := cell_up (o := .cells #[.int .i64 0, .int .i64 m, .int .i64 c, .int .i64 a] 51) m1
        have hs3 : (w2.alloc (.cells #[.int .i64 0, .int .i64 m, .int .i64 c, .int .i64 a] 51)).heap.size = w2.heap.size + 1 := by simp
        clear hb3
        go_wp2_with fail
        refine (HFt.out _).mono ?_
        rintro e w4 ⟨rfl, hb⟩
        have B4 := Lib.hid (B3.out.trans (hb.mono B3.out.size))
        clear hb n0 n1 hs3 c0 c1 c2 c3 m0 m1 hlt2
        go_wp2_with fail
        go_ret2
        have hL := po_none (m := m) (c := c) (a := a) (ln := ln) (ld := ld) (by rw [HE.out]; decide)
        exact ⟨none, 0, by rw [hL, HE.out]; rfl, by rw [hL]; exact Rd.nil_, B4.out⟩
      · rw [hf] at HFt
        have HE := Lib.hid (show poE m c a ln ld = 0 by rw [HE0.out, hf]; rfl)
        have hf2 : a ≤ m ∧ a ≤ c := by unfold fitB at hf; simpa using hf
        have HL := Lib.hid (show poL m c a ln ld = poS (m + c - a).toNat m.toNat c.toNat a.toNat ln.toNat ld.toNat (61 - (m + c - a).toNat) from if_pos HE.out)
        have HWB := Lib.hid (fun w => withBirds_any 0 m.toNat c.toNat a.toNat (m + c - a).toNat (by omega) (by omega) (by omega) (by omega) (by omega) w)
        obtain ⟨n, hn⟩ : ∃ n, n = (m + c - a).toNat := ⟨_, rfl⟩
        obtain ⟨M, hM⟩ : ∃ M, M = m.toNat := ⟨_, rfl⟩
        obtain ⟨C, hC⟩ : ∃ C, C = c.toNat := ⟨_, rfl⟩
        obtain ⟨D, hD⟩ : ∃ D, D = a.toNat := ⟨_, rfl⟩
        obtain ⟨p, hp⟩ : ∃ p, p = ln.toNat := ⟨_, rfl⟩
        obtain ⟨q, hq⟩ : ∃ q, q = ld.toNat := ⟨_, rfl⟩
        rw [← hn, ← hM, ← hC, ← hD, ← hp, ← hq] at HL
        rw [← hn, ← hM, ← hC, ← hD] at HWB
        obtain ⟨hMm, hCc, hDa, hpl, hql⟩ : m = (M : Int) ∧ c = (C : Int) ∧ a = (D : Int) ∧ ln = (p : Int) ∧ ld = (q : Int) := ⟨by omega, by omega, by omega, by omega, by omega⟩
        have hMn : M ≤ n := by omega
        have hCn : C ≤ n := by omega
        have hM60 : M ≤ 60 := by omega
        have hC60 : C ≤ 60 := by omega
        have hD60 : D ≤ 60 := by omega
        have hp1 : p ≤ 1000 := by omega
        have hq1 : q ≤ 1000 := by omega
        clear hp hq hn hM hC hD hf hf2 mm0 mm1 cc0 cc1 aa0 aa1 ld1 ld2 ln0 ln1 HE0
        subst hMm hCc hDa hpl hql
        obtain ⟨K, hK⟩ : ∃ K, K = 61 - n := ⟨_, rfl⟩
        have HK61 := Lib.hid hK
        rw [← hK] at HL HWB
        have hK61 : K ≤ 61 := by omega
        clear hK
        go_enter Try.func31, Try.ntmps31
        go_wp2_with fail
        rw [HW.out]
        refine HAA.out.mono ?_
        rintro e w1 ⟨rfl, hb⟩
        have B1 := Lib.hid (HBW.out.trans (hb.mono (Nat.le_succ _)))
        have l0 := cell_keep HL0.out hb (Nat.lt_succ_self _)
        have l1 := cell_keep HL1.out hb (Nat.lt_succ_self _)
        have hlt : w.heap.size < w1.heap.size := by have := hb.size; have := HSZ.out; omega
        clear hb
        go_wp2_with fail
        refine (HLV.out w1).mono ?_
        rintro e w2 ⟨rfl, hb⟩
        have B2 := Lib.hid (B1.out.trans (hb.mono B1.out.size))
        have m0 := cell_keep l0 hb hlt
        have m1 := cell_keep l1 hb hlt
        have hlt2 : w.heap.size < w2.heap.size := Nat.lt_of_lt_of_le hlt hb.size
        clear hb l0 l1 hlt
        obtain ⟨⟨c0, c1, c2, c3⟩, hb3⟩ := box_c1 w2 M C D
        have B3 := Lib.hid (B2.out.trans (hb3.mono B2.out.size))
        have n0 := cell_up (o := .cells #[.int .i64 0, .int .i64 (M : Int), .int .i64 (C : Int), .int .i64 (D : Int)] 51) m0
        have n1 := cell_up (o := .cells #[.int .i64 0, .int .i64 (M : Int), .int .i64 (C : Int), .int .i64 (D : Int)] 51) m1
        have hs3 : (w2.alloc (.cells #[.int .i64 0, .int .i64 (M : Int), .int .i64 (C : Int), .int .i64 (D : Int)] 51)).heap.size = w2.heap.size + 1 := by simp
        clear hb3
        go_wp2_with fail
        refine (HFt.out _).mono ?_
        rintro e w4 ⟨rfl, hb⟩
        have B4 := Lib.hid (B3.out.trans (hb.mono B3.out.size))
        have o0 := cell_keep n0 hb (by omega)
        have o1 := cell_keep n1 hb (by omega)
        have z0 := cell_keep c0 hb (by omega)
        have z1 := cell_keep c1 hb (by omega)
        have z2 := cell_keep c2 hb (by omega)
        have z3 := cell_keep c3 hb (by omega)
        have hlt4 : w.heap.size < w4.heap.size := by have := hb.size; omega
        clear hb n0 n1 hs3 c0 c1 c2 c3 m0 m1 hlt2
        go_wp2_with fail
        refine (HWB.out w4).mono ?_
        rintro e w5 ⟨A5, c5, rfl, hr, hb⟩
        have R5 := Lib.hid hr
        have B5 := Lib.hid (B4.out.trans (hb.mono B4.out.size))
        have P0 := Lib.hid (cell_keep o0 hb hlt4)
        have P1 := Lib.hid (cell_keep o1 hb hlt4)
        have HLT := Lib.hid (Nat.lt_of_lt_of_le hlt4 hb.size)
        clear hb hr o0 o1 z0 z1 z2 z3 hlt4
        go_wp2_with fail
        go_loopw [11, 35] (fun v i wr => ∃ (j : Nat) (A' : Option Addr) (c' : Nat), j ≤ K ∧ v = .slice A' (poS n M C D p q j).length c' ∧ i = .int .i64 j ∧ wr.ownsRow w5.heap.size 3 1 (.slice A' (poS n M C D p q j).length c') (poS n M C D p q j).length (ints (poS n M C D p q j)) ∧ Below w5.heap.size w5 wr) (fun _ i _ => K - (intOf i).toNat)
        case atStart => exact ⟨0, none, 0, by omega, rfl, rfl, ⟨rfl, .inl ⟨rfl, rfl⟩⟩, Below.refl _ _⟩
        case round =>
          obtain ⟨j, A', c', hj, rfl, rfl, h1, h2⟩ := hrel
          have OW := Lib.hid h1
          have B6 := Lib.hid h2
          by_cases hlt : j < K
          · obtain ⟨x, hx⟩ : ∃ x, x = n + j := ⟨_, rfl⟩
            have hx60 : x ≤ 60 := by have := HK61.out; omega
            obtain ⟨bb, o, hA, hbb, hcells⟩ := R5.out.rcs (f := fun (i : Nat) => rcC ((n + i : Nat) : Int) M C D) (fun i => rfl) j hlt
            have HAE := Lib.hid hA
            subst hA
            have e0 : wr.cell? ⟨bb, o + j * 4, none⟩ = some (.int .i64 (x : Int)) := cell_keep (by have := hcells 0 _ rfl; rw [hx]; exact this) h2 hbb
            have e1 : wr.cell? ⟨bb, o + j * 4 + 1, none⟩ = some (.int .i64 (M : Int)) := cell_keep (hcells 1 _ rfl) h2 hbb
            have e2 : wr.cell? ⟨bb, o + j * 4 + 2, none⟩ = some (.int .i64 (C : Int)) := cell_keep (hcells 2 _ rfl) h2 hbb
            have e3 : wr.cell? ⟨bb, o + j * 4 + 3, none⟩ = some (.int .i64 (D : Int)) := cell_keep (hcells 3 _ rfl) h2 hbb
            have b0 : (0 : Int) ≤ (j : Int) := by omega
            have b1 : (j : Int) < (K : Int) := by omega
            have HAM := Lib.hid (fun w => atMost_any x M C (D + 1) hx60 (by omega) (by omega) (by omega) w)
            have HAL := Lib.hid (fun w => atLeast_any x M C D hx60 (by omega) (by omega) hD60 w)
            rw [show (((D + 1 : Nat) : Int) - 1) = (D : Int) by omega] at HAM
            have hc1 := po_most (n := x) (m := M) (c := C) (a := D) (ln := p) (ld := q) (by omega)
            have hc2 := po_least (n := x) (m := M) (c := C) (a := D) (ln := p) (ld := q) (by omega) (by omega)
            have hpo : poB M C D p q x = (decide (0 < cmpN ((amN x M C (D + 1)).1 * q) (p * (amN x M C (D + 1)).2)) && decide (0 < cmpN ((alN x M C D).1 * q) (p * (alN x M C D).2))) := by rw [hc1, hc2]; rfl
            have g1 : (amN x M C (D + 1)).1 ≤ 118264581564861424 ∧ (amN x M C (D + 1)).2 ≤ 118264581564861424 := ⟨Nat.le_trans (fr_le _ _).1 (Nat.le_trans (upW_le (by omega) _) (ch_small hx60 C)), Nat.le_trans (fr_le _ _).2 (ch_small hx60 C)⟩
            have g2 : (alN x M C D).1 ≤ 118264581564861424 ∧ (alN x M C D).2 ≤ 118264581564861424 := ⟨Nat.le_trans (Nat.sub_le _ _) (Nat.le_trans (fr_le _ _).2 (ch_small hx60 C)), Nat.le_trans (fr_le _ _).2 (ch_small hx60 C)⟩
            clear hc1 hc2
            generalize amN x M C (D + 1) = u at *
            generalize alN x M C D = v at *
            obtain ⟨u1, u2⟩ := u
            obtain ⟨v1, v2⟩ := v
            simp only at g1 g2 hpo
            unfold ratV at HAM HAL
            have HC1 := Lib.hid (fun w => compareFractions_any u1 u2 p q (by omega) (by omega) (by omega) (by omega) w)
            have HC2 := Lib.hid (fun w => compareFractions_any v1 v2 p q (by omega) (by omega) (by omega) (by omega) w)
            generalize cmpN (u1 * q) (p * u2) = r1 at *
            generalize cmpN (v1 * q) (p * v2) = r2 at *
            unfold rt at HC1 HC2
            have HPO := Lib.hid hpo
            have HX := Lib.hid hx
            clear hpo hx hcells h1 g1 g2
            obtain ⟨y0, y1, y2, y3, hbx⟩ := box_rc wr x M C D 51
            obtain ⟨X, hX⟩ : ∃ X, wr.alloc (.cells #[.int .i64 (x : Int), .int .i64 (M : Int), .int .i64 (C : Int), .int .i64 (D : Int)] 51) = X := ⟨_, rfl⟩
            have hsX : X.heap.size = wr.heap.size + 1 := by rw [← hX]; simp
            rw [show wr.alloc (.cells (rc x M C D) 51) = X from hX] at y0 y1 y2 y3 hbx
            have HXW := Lib.hid hX
            have q0 := cell_keep (cell_keep P0.out h2 HLT.out) hbx (Nat.lt_of_lt_of_le HLT.out h2.size)
            have q1 := cell_keep (cell_keep P1.out h2 HLT.out) hbx (Nat.lt_of_lt_of_le HLT.out h2.size)
            have hlX : w.heap.size < X.heap.size := by have := HLT.out; have := h2.size; omega
            have BX := Lib.hid (B6.out.trans (hbx.mono B6.out.size))
            have OX := Lib.hid (own_below OW.out hbx)
            have hl61 := poS_le n M C D p q j
            clear h2 hbx hX hbb
            have hwX : wr.heap.size < X.heap.size := by omega
            have HK := Lib.hid (fun (w7 : World) (k : Below X.heap.size X w7) => show (w7.cell? ⟨wr.heap.size, 0, none⟩ = some (.int .i64 (x : Int)) ∧ w7.cell? ⟨wr.heap.size, 1, none⟩ = some (.int .i64 (M : Int)) ∧ w7.cell? ⟨wr.heap.size, 2, none⟩ = some (.int .i64 (C : Int)) ∧ w7.cell? ⟨wr.heap.size, 3, none⟩ = some (.int .i64 (D : Int))) ∧ (w7.cell? ⟨w.heap.size, 0, none⟩ = some (.int .i64 (p : Int)) ∧ w7.cell? ⟨w.heap.size, 1, none⟩ = some (.int .i64 (q : Int))) from
              ⟨⟨cell_keep y0 k hwX, cell_keep y1 k hwX, cell_keep y2 k hwX, cell_keep y3 k hwX⟩, ⟨cell_keep q0 k hlX, cell_keep q1 k hlX⟩⟩)
            have HS0 := Lib.hid (HK.out X.drew ((Below.refl _ X).drew))
            have BD := Lib.hid ((Below.refl X.heap.size X).drew)
            clear y0 y1 y2 y3 q0 q1 hlX hwX
            cases hr1 : decide (0 < r1)
            · have HN := Lib.hid (poS_no (k := j) (show poB M C D p q (n + j) = false by rw [← HX.out, HPO.out, hr1]; rfl))
              obtain ⟨⟨y0, y1, y2, y3⟩, q0, q1⟩ := HK.out X (Below.refl _ _)
              go_wp2_with fail
              rw [HXW.out]
              go_region_law (first
                | (go_simp; go_at_call 58; first
                    | ((with_reducible refine (HC1.out w7).mono ?_); rintro e w8 ⟨rfl, hb⟩; have B8 := Lib.hid (B7.out.trans (hb.mono B7.out.size)); clear hb)
                    | ((with_reducible refine (HC1.out w7.drew).mono ?_); rintro e w8 ⟨rfl, hb⟩; have B8 := Lib.hid (B7.out.drew.trans (hb.mono B7.out.size)); clear hb))
                | (go_simp; go_at_call 47; refine (HAM.out _).mono ?_; rintro e w7 ⟨rfl, hb⟩; have B7 := Lib.hid (show Below X.heap.size X w7 from by first | exact hb | exact (Below.refl _ _).drew.trans hb); obtain ⟨⟨y0, y1, y2, y3⟩, q0, q1⟩ := HK.out w7 B7.out; clear hb))
              all_goals
                have B9 := Lib.hid (show Below X.heap.size X w8 from B8.out)
                have OZ := Lib.hid (own_below OX.out B9.out)
                have BZ := Lib.hid (BX.out.trans (B9.out.mono BX.out.size))
                go_wp2_with fail
                go_roundw
                case rel => exact ⟨j + 1, A', c', by omega, by rw [HN.out], by go_num, by rw [HN.out]; exact OZ.out, BZ.out⟩
                case measure => simp [intOf]; omega
            · cases hr2 : decide (0 < r2)
              · have HN := Lib.hid (poS_no (k := j) (show poB M C D p q (n + j) = false by rw [← HX.out, HPO.out, hr1, hr2]; rfl))
                go_wp2_with fail
                rw [HXW.out]
                go_region_held3 (fun w' => (w'.cell? ⟨wr.heap.size, 0, none⟩ = some (.int .i64 (x : Int)) ∧ w'.cell? ⟨wr.heap.size, 1, none⟩ = some (.int .i64 (M : Int)) ∧ w'.cell? ⟨wr.heap.size, 2, none⟩ = some (.int .i64 (C : Int)) ∧ w'.cell? ⟨wr.heap.size, 3, none⟩ = some (.int .i64 (D : Int))) ∧ (w'.cell? ⟨w.heap.size, 0, none⟩ = some (.int .i64 (p : Int)) ∧ w'.cell? ⟨w.heap.size, 1, none⟩ = some (.int .i64 (q : Int))))
                  (first | exact HS0.out | exact SK7.out | exact SK8.out | exact SK9.out | exact SK10.out)
                  ((first
                    | (go_at_call 47; refine (HAM.out X.drew).mono ?_; rintro e w7 ⟨rfl, hb⟩; have B7 := Lib.hid (BD.out.trans (hb.mono BD.out.size)); have SK7 := Lib.hid (HK.out w7 B7.out); clear hb)
                      | (go_at_call 58; (with_reducible refine (HC1.out w7).mono ?_); rintro e w8 ⟨rfl, hb⟩; have B8 := Lib.hid (B7.out.trans (hb.mono B7.out.size)); have SK8 := Lib.hid (HK.out w8 B8.out); clear hb)
                      | (go_at_call 59; refine (HAL.out w8).mono ?_; rintro e w9 ⟨rfl, hb⟩; have B9 := Lib.hid (B8.out.trans (hb.mono B8.out.size)); have SK9 := Lib.hid (HK.out w9 B9.out); clear hb)
                      | (go_at_call 58; (with_reducible refine (HC2.out w9).mono ?_); rintro e w10 ⟨rfl, hb⟩; have B10 := Lib.hid (B9.out.trans (hb.mono B9.out.size)); have SK10 := Lib.hid (HK.out w10 B10.out); clear hb)))
                all_goals
                  have OZ := Lib.hid (own_below OX.out B10.out)
                  have BZ := Lib.hid (BX.out.trans (B10.out.mono BX.out.size))
                  go_wp2_with fail
                  go_roundw
                  case rel => exact ⟨j + 1, A', c', by omega, by rw [HN.out], by go_num, by rw [HN.out]; exact OZ.out, BZ.out⟩
                  case measure => simp [intOf]; omega
              · have HN := Lib.hid (poS_yes (k := j) (show poB M C D p q (n + j) = true by rw [← HX.out, HPO.out, hr1, hr2]; rfl))
                go_wp2_with fail
                rw [HXW.out]
                go_region_held3 (fun w' => (w'.cell? ⟨wr.heap.size, 0, none⟩ = some (.int .i64 (x : Int)) ∧ w'.cell? ⟨wr.heap.size, 1, none⟩ = some (.int .i64 (M : Int)) ∧ w'.cell? ⟨wr.heap.size, 2, none⟩ = some (.int .i64 (C : Int)) ∧ w'.cell? ⟨wr.heap.size, 3, none⟩ = some (.int .i64 (D : Int))) ∧ (w'.cell? ⟨w.heap.size, 0, none⟩ = some (.int .i64 (p : Int)) ∧ w'.cell? ⟨w.heap.size, 1, none⟩ = some (.int .i64 (q : Int))))
                  (first | exact HS0.out | exact SK7.out | exact SK8.out | exact SK9.out | exact SK10.out)
                  ((first
                    | (go_at_call 47; refine (HAM.out X.drew).mono ?_; rintro e w7 ⟨rfl, hb⟩; have B7 := Lib.hid (BD.out.trans (hb.mono BD.out.size)); have SK7 := Lib.hid (HK.out w7 B7.out); clear hb)
                      | (go_at_call 58; (with_reducible refine (HC1.out w7).mono ?_); rintro e w8 ⟨rfl, hb⟩; have B8 := Lib.hid (B7.out.trans (hb.mono B7.out.size)); have SK8 := Lib.hid (HK.out w8 B8.out); clear hb)
                      | (go_at_call 59; refine (HAL.out w8).mono ?_; rintro e w9 ⟨rfl, hb⟩; have B9 := Lib.hid (B8.out.trans (hb.mono B8.out.size)); have SK9 := Lib.hid (HK.out w9 B9.out); clear hb)
                      | (go_at_call 58; (with_reducible refine (HC2.out w9).mono ?_); rintro e w10 ⟨rfl, hb⟩; have B10 := Lib.hid (B9.out.trans (hb.mono B9.out.size)); have SK10 := Lib.hid (HK.out w10 B10.out); clear hb)))
                all_goals
                  obtain ⟨⟨y0, y1, y2, y3⟩, _⟩ := SK10.out
                  have OZ := Lib.hid (own_below OX.out B10.out)
                  have BZ := Lib.hid (BX.out.trans (B10.out.mono BX.out.size))
                  have hl62 := poS_le n M C D p q j
                  have HPS := Lib.hid (show ints (poS n M C D p q (j + 1)) = ints (poS n M C D p q j) ++ [.int .i64 (x : Int)] by rw [HN.out, HX.out]; simp [ints])
                  have HPL := Lib.hid (show (poS n M C D p q (j + 1)).length = (poS n M C D p q j).length + 1 by rw [HN.out]; simp)
                  go_wp2_with ((with_reducible show wpList _ _ _ (⟨some 55, _, _, _, _, _⟩ :: _) _ _); refine app eInt rfl (.tmp 51) (.tmp 54) rfl rfl (OZ.out.alloc _) (BZ.out.alloc BZ.out.size (.cells #[.int .i64 (x : Int)] 3)) (size_alloc' BZ.out.size _) rfl (Rd.one w10 (.int .i64 (x : Int)) 3 (Nat.lt_succ_self _)) (by simp) (ints_one [(x : Int)]) ((poS n M C D p q j).length + 1) rfl (by omega) ?_; intro A2 c2 w11 o2 b2 _ _; have O2 := Lib.hid (show w11.ownsRow w5.heap.size 3 1 (.slice A2 (poS n M C D p q (j + 1)).length c2) (poS n M C D p q (j + 1)).length (ints (poS n M C D p q (j + 1))) by rw [HPS.out, HPL.out]; exact o2); have B11 := Lib.hid b2; clear o2 b2)
                  go_roundw
                  case rel => exact ⟨j + 1, A2, c2, by omega, by rw [HPL.out], by go_num, O2.out, B11.out⟩
                  case measure => simp [intOf]; omega
          · have hjk : j = K := by omega
            subst hjk
            clear h1 h2 hlt
            go_wp2_with fail
            go_ret2
            exact ⟨A', c', by rw [HL.out, HE.out]; rfl, by rw [HL.out]; exact Rd.of_own OW.out, B5.out.trans (B6.out.mono B5.out.size)⟩
end Go.Proofs.Ytgpghnhpbjnhkaa

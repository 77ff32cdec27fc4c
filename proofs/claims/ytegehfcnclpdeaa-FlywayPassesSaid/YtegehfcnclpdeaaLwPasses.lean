/-
  The walk of the law FlywayPasses: it returns true. Conditions: the chain can be read.
-/
import Derived.Test.YtegehfcnclpdeaaFow
import Derived.Test.YtegehfcnclpdeaaFkn
namespace Go.Proofs.Ytegehfcnclpdeaa
open Go.RowKit
set_option linter.unusedVariables false

theorem rowsL_eq {rs qs : List Rw} (h : qs.map (·.l) = rs.map (·.l)) : rowsL qs = rowsL rs := h
theorem len_eq {rs qs : List Rw} (h : qs.map (·.l) = rs.map (·.l)) : qs.length = rs.length := by
  have := congrArg List.length h
  rwa [List.length_map, List.length_map] at this
theorem szr_eq {rs qs : List Rw} (h : qs.map (·.l) = rs.map (·.l)) (hs : SzR rs) : SzR qs := fun r hr => by
  have h1 : r.l ∈ rs.map (·.l) := by rw [← h]; exact List.mem_map.2 ⟨r, hr, rfl⟩
  obtain ⟨q, hq, e⟩ := List.mem_map.1 h1
  rw [← e]
  exact hs q hq
theorem large_not {rs : List Rw} (h : largeR rs = false) : rs.length ≤ 30 ∧ ∀ r ∈ rs, r.l.length ≤ 30 := by
  unfold largeR at h
  rw [Bool.or_eq_false_iff, decide_eq_false_iff_not, List.any_eq_false] at h
  exact ⟨by omega, fun r hr => by have := h.1 r hr; simp at this; omega⟩
set_option maxRecDepth 8000 in
set_option maxHeartbeats 2000000 in
theorem FlywayPasses_walk (A : Option Addr) (rs : List Rw) (c : Nat) (hs : SzR rs) (hl : rs.length ≤ 9223372036854775807) (i j : Int) (w : World) (hr : RdR w w.heap.size A rs) :
    Calls Try.prog 3 #[.slice A rs.length c, .agg #[.int .i64 i, .int .i64 j]] w fun e w' => e = .returned (.bool true) ∧ Below w.heap.size w w' := by
  obtain ⟨W, hW, hg, hs1, hb0⟩ := one_blk w #[.int .i64 i, .int .i64 j] 24
  have HW := Lib.hid hW
  have HR := Lib.hid (hr.up hb0)
  have B0 := Lib.hid hb0
  have HG := Lib.hid hg
  have HLg := Lib.hid (Large_any A c rs hs hl W HR.out)
  have HS1 := Lib.hid hs1
  cases hlg : largeR rs
  · rw [hlg] at HLg
    obtain ⟨h30, r30⟩ := large_not hlg
    have HCp := Lib.hid (CopyRows_any A c rs h30 r30 W HR.out)
    have HP2 := Lib.hid (fun w h => RPassage_any A rs c hs hl i j w h)
    have HV2 := Lib.hid (fun w h => RValidate_any A rs c hs hl w h)
    have HEq := Lib.hid (pa_rp (rs := rs) i j)
    rw [← HEq.out] at HP2
    have HSz := Lib.hid hs
    have x0 := (blk_cell (j := 0) hg).trans (show _ = some (.int .i64 i) from rfl)
    have x1 := (blk_cell (j := 1) hg).trans (show _ = some (.int .i64 j) from rfl)
    obtain ⟨⟨p1, p2⟩, hp⟩ : ∃ p, paV (rowsL rs) i j = p := ⟨_, rfl⟩
    obtain ⟨E, hE⟩ : ∃ E, ckE (rowsL rs) [i, j] = E := ⟨_, rfl⟩
    obtain ⟨V, hV⟩ : ∃ V, vdE (rowsL rs) = V := ⟨_, rfl⟩
    rw [hp, hE] at HP2
    rw [hV] at HV2
    have HPP := Lib.hid (And.intro hp (And.intro hE hV))
    unfold ratZ at HP2
    dsimp only at HP2
    clear hr hW hb0 hlg HEq hp hE hV hs hg hs1 r30
    go_enter Try.func3, Try.ntmps3
    go_wp2_with fail
    rw [HW.out]
    refine HLg.out.mono ?_
    rintro e w' ⟨rfl, rfl⟩
    go_wp2_with fail
    refine HCp.out.mono ?_
    rintro e w1 ⟨A', c', qs, rfl, hm, hr1, hb1⟩
    have HM := Lib.hid hm
    have R1 := Lib.hid hr1
    have B1 := Lib.hid (B0.out.trans (hb1.mono B0.out.size))
    have Q1 := Lib.hid (HR.out.up hb1)
    have G1 := Lib.hid ((hb1.block _ HS1.out).trans HG.out)
    have L1 := Lib.hid (Nat.lt_of_lt_of_le HS1.out hb1.size)
    have HP1 := Lib.hid (fun w h => Passage_any A' qs c' (szr_eq hm HSz.out) (by rw [len_eq hm]; exact hl) i j w h)
    have HV1 := Lib.hid (fun w h => Validate_any A' qs c' (szr_eq hm HSz.out) (by rw [len_eq hm]; exact hl) w h)
    have HSR := Lib.hid (fun w h h' => SameRows_any A A' c c' rs none qs HSz.out hl hm w h h')
    rw [rowsL_eq hm, HPP.out.1, HPP.out.2.1, len_eq hm] at HP1
    rw [rowsL_eq hm, HPP.out.2.2, len_eq hm] at HV1
    rw [len_eq hm] at HSR
    unfold ratZ at HP1
    dsimp only at HP1
    clear hb1 hr1 hm x0 x1
    have x0 := (blk_cell (j := 0) G1.out).trans (show _ = some (.int .i64 i) from rfl)
    have x1 := (blk_cell (j := 1) G1.out).trans (show _ = some (.int .i64 j) from rfl)
    go_wp2_with fail
    refine (HP1.out w1 R1.out).mono ?_
    rintro e w2 ⟨rfl, hb2⟩
    have B2 := Lib.hid (B1.out.trans (hb2.mono B1.out.size))
    have R2 := Lib.hid (R1.out.up hb2)
    have Q2 := Lib.hid (Q1.out.up hb2)
    have G2 := Lib.hid ((hb2.block _ L1.out).trans G1.out)
    have L2 := Lib.hid (Nat.lt_of_lt_of_le L1.out hb2.size)
    clear hb2 x0 x1
    obtain ⟨w3, h3⟩ : ∃ w3, w2.alloc (.cells #[.int .i64 p1, .int .i64 p2] 29) = w3 := ⟨_, rfl⟩
    have hb3 : Below w2.heap.size w2 w3 := by rw [← h3]; exact (Below.refl _ _).alloc (Nat.le_refl _) _
    have ha := heap_alloc_new w2 (.cells #[.int .i64 p1, .int .i64 p2] 29)
    rw [h3] at ha
    obtain ⟨a, hA⟩ : ∃ a, w2.heap.size = a := ⟨_, rfl⟩
    rw [hA] at ha
    have hz3 : w3.heap.size = a + 1 := by rw [← h3]; simp [hA]
    have H3 := Lib.hid h3
    have HA := Lib.hid hA
    have B3 := Lib.hid (B2.out.trans (hb3.mono B2.out.size))
    have R3 := Lib.hid (R2.out.up hb3)
    have Q3 := Lib.hid (Q2.out.up hb3)
    have G3 := Lib.hid ((hb3.block _ L2.out).trans G2.out)
    have L3 := Lib.hid (Nat.lt_of_lt_of_le L2.out hb3.size)
    have A3 := Lib.hid ha
    have x0 : (w2.alloc (.cells #[.int .i64 p1, .int .i64 p2] 29)).cell? ⟨w.heap.size, 0, none⟩ = some (.int .i64 i) := by rw [h3]; exact (blk_cell (j := 0) G3.out).trans rfl
    have x1 : (w2.alloc (.cells #[.int .i64 p1, .int .i64 p2] 29)).cell? ⟨w.heap.size, 1, none⟩ = some (.int .i64 j) := by rw [h3]; exact (blk_cell (j := 1) G3.out).trans rfl
    clear hb3 h3 ha hA
    go_wp2_with fail
    rw [H3.out]
    refine (HP2.out w3 Q3.out).mono ?_
    rintro e w4 ⟨rfl, hb4⟩
    have B4 := Lib.hid (B3.out.trans (hb4.mono B3.out.size))
    have R4 := Lib.hid (R3.out.up hb4)
    have Q4 := Lib.hid (Q3.out.up hb4)
    have A4 := Lib.hid ((hb4.block a (by omega)).trans A3.out)
    have L4 := Lib.hid (show a < w4.heap.size by have := hb4.size; omega)
    clear hb4 x0 x1
    obtain ⟨w5, h5⟩ : ∃ w5, w4.alloc (.cells #[.int .i64 p1, .int .i64 p2] 29) = w5 := ⟨_, rfl⟩
    have hb5 : Below w4.heap.size w4 w5 := by rw [← h5]; exact (Below.refl _ _).alloc (Nat.le_refl _) _
    have ha := heap_alloc_new w4 (.cells #[.int .i64 p1, .int .i64 p2] 29)
    rw [h5] at ha
    have H5 := Lib.hid h5
    have B5 := Lib.hid (B4.out.trans (hb5.mono B4.out.size))
    have R5 := Lib.hid (R4.out.up hb5)
    have Q5 := Lib.hid (Q4.out.up hb5)
    have A5 : w5.heap[w2.heap.size]? = some (.cells #[.int .i64 p1, .int .i64 p2] 29 (0, 0)) := by rw [HA.out]; exact (hb5.block a L4.out).trans A4.out
    have y0 := (blk_cell (j := 0) A5).trans (show _ = some (.int .i64 p1) from rfl)
    have y1 := (blk_cell (j := 1) A5).trans (show _ = some (.int .i64 p2) from rfl)
    have y2 := (blk_cell (j := 0) ha).trans (show _ = some (.int .i64 p1) from rfl)
    have y3 := (blk_cell (j := 1) ha).trans (show _ = some (.int .i64 p2) from rfl)
    have q1 := fun W => rat_in p1 p2 W
    have q2 := fun W => rat_eq p1 p2 W
    have q3 := guard_rat
    clear hb5 h5 ha A5
    go_wp2_with fail
    rw [H5.out]
    refine (HV1.out w5 R5.out).mono ?_
    rintro e w' ⟨rfl, rfl⟩
    go_wp2_with fail
    refine (HV2.out w5 Q5.out).mono ?_
    rintro e w' ⟨rfl, rfl⟩
    go_wp2_with fail
    refine (HSR.out w5 Q5.out R5.out).mono ?_
    rintro e w6 ⟨rfl, hb6⟩
    have B6 := Lib.hid (B5.out.trans (hb6.mono B5.out.size))
    clear hb6 y0 y1 y2 y3
    go_wp2_with fail
    refine (known_any w6).mono ?_
    rintro e w7 ⟨rfl, hb7⟩
    have B7 := Lib.hid (B6.out.trans (hb7.mono B6.out.size))
    go_wp2_with fail
    go_ret
    exact ⟨rfl, B7.out⟩
  · rw [hlg] at HLg
    clear hr hW hb0 hlg hs hg hs1
    go_enter Try.func3, Try.ntmps3
    go_wp2_with fail
    rw [HW.out]
    refine HLg.out.mono ?_
    rintro e w' ⟨rfl, rfl⟩
    go_wp2_with fail
    refine (known_any W).mono ?_
    rintro e w2 ⟨rfl, hb2⟩
    have B2 := Lib.hid (B0.out.trans (hb2.mono B0.out.size))
    go_wp2_with fail
    go_ret
    exact ⟨rfl, B2.out⟩
end Go.Proofs.Ytegehfcnclpdeaa

/-
  CountLikely: the walk. Every argument.
-/
import Derived.Test.YtgpghnhpbjnhkaaCc6
namespace Go.Proofs.Ytgpghnhpbjnhkaa
open Go.RowKit
set_option linter.unusedVariables false

theorem likely {m c a : Int} (hk : beK m c a = true) (ha : a ≠ 0) :
    (beV m c a : Int) = (if m * c % a = 0 ∧ m * c / a ≤ 60 ∧ m + c - a < m * c / a then m * c / a - 1 else min (m * c / a) 60) ∧ m + c - a ≤ (beV m c a : Int) := by
  have hV : beV m c a = bstN (m + c - a).toNat m.toNat c.toNat a.toNat (60 - (m + c - a).toNat) := if_pos hk
  unfold beK at hk
  simp only [Bool.and_eq_true, decide_eq_true_eq] at hk
  obtain ⟨hv, ⟨h1, h2⟩, h3⟩ := hk
  obtain ⟨hm, hc, h0⟩ := allB3 hv
  obtain ⟨M, hM⟩ : ∃ M : Nat, m = M := ⟨m.toNat, by omega⟩
  obtain ⟨C, hC⟩ : ∃ C : Nat, c = C := ⟨c.toNat, by omega⟩
  obtain ⟨D, hD⟩ : ∃ D : Nat, a = D := ⟨a.toNat, by omega⟩
  obtain ⟨n, hn⟩ : ∃ n : Nat, m + c - a = n := ⟨(m + c - a).toNat, by omega⟩
  rw [hn] at hV h3 ⊢
  rw [show m.toNat = M by omega, show c.toNat = C by omega, show a.toNat = D by omega, Int.toNat_natCast] at hV
  have hb := bst_best (m := M) (c := C) (a := D) (l := n) (by omega) (by omega) (by omega) (60 - n)
  have hr := bst_range (fun n => wy n M C D) (fun n => ch n C) n (60 - n)
  rw [← show beV m c a = bst (fun n => wy n M C D) (fun n => ch n C) n (60 - n) from hV] at hb hr
  generalize beV m c a = x at *
  obtain ⟨_, hx, hup⟩ := hb
  have hDp : 0 < D := by omega
  -- the quotient
  have hq : m * c / a = ((M * C / D : Nat) : Int) := by rw [hM, hC, hD, ← Int.natCast_mul]; rfl
  have hrm : m * c % a = ((M * C % D : Nat) : Int) := by rw [hM, hC, hD, ← Int.natCast_mul]; rfl
  rw [hq, hrm]
  have hdm := Nat.div_add_mod (M * C) D
  have hml := Nat.mod_lt (M * C) hDp
  have hle : D * n ≤ M * C := by
    obtain ⟨p, hp⟩ := Nat.exists_eq_add_of_le (show D ≤ M by omega)
    obtain ⟨q, hq⟩ := Nat.exists_eq_add_of_le (show D ≤ C by omega)
    rw [show n = D + p + q by omega, hp, hq, Nat.add_mul, Nat.mul_add, Nat.mul_add, Nat.mul_add, Nat.mul_add, Nat.mul_comm p D]
    have := Nat.zero_le (p * q)
    omega
  have hlt : ∀ j : Nat, j * D < M * C ↔ (if M * C % D = 0 then j < M * C / D else j ≤ M * C / D) := by
    intro j
    rw [Nat.mul_comm j D]
    generalize M * C = N at *
    generalize hqq : N / D = q at *
    generalize N % D = r at *
    split
    · rename_i h
      constructor
      · intro hj
        rcases Nat.lt_or_ge j q with h' | h'
        · exact h'
        · have := Nat.mul_le_mul_left D h'; omega
      · intro hj
        have := Nat.mul_lt_mul_of_pos_left hj hDp; omega
    · rename_i h
      constructor
      · intro hj
        rcases Nat.lt_or_ge q j with h' | h'
        · have := Nat.mul_le_mul_left D h'; rw [Nat.mul_succ] at this; omega
        · exact h'
      · intro hj
        have := Nat.mul_le_mul_left D hj; omega
  have hqn : n ≤ M * C / D := (Nat.le_div_iff_mul_le hDp).2 (by rw [Nat.mul_comm]; exact hle)
  generalize M * C / D = q at *
  generalize M * C % D = r at *
  have hxr := hlt x
  have hT : ∀ j, n < j → j ≤ 60 → j * D < M * C → j ≤ x := fun j j1 j2 j3 => hup j j1 (by omega) j3
  refine ⟨?_, by omega⟩
  by_cases hr0 : r = 0
  · simp only [hr0, if_true] at hlt hxr
    by_cases hq60 : q ≤ 60
    · by_cases hnq : n < q
      · rw [if_pos ⟨by omega, by omega, by omega⟩]
        have k1 : q - 1 ≤ x := by
          rcases Nat.lt_or_ge n (q - 1) with h' | h'
          · exact hT _ h' (by omega) ((hlt (q - 1)).2 (by omega))
          · omega
        rcases hx with hx | hx
        · omega
        · have := hxr.1 hx; omega
      · rw [if_neg (by omega)]
        rcases hx with hx | hx
        · omega
        · have := hxr.1 hx; omega
    · rw [if_neg (by omega)]
      have k1 : 60 ≤ x := by
        rcases Nat.lt_or_ge n 60 with h' | h'
        · exact hT _ h' (by omega) ((hlt 60).2 (by omega))
        · omega
      omega
  · simp only [hr0, if_false] at hlt hxr
    rw [if_neg (by omega)]
    have k1 : min q 60 ≤ x := by
      rcases Nat.lt_or_ge n (min q 60) with h' | h'
      · exact hT _ h' (by omega) ((hlt (min q 60)).2 (by omega))
      · omega
    rcases hx with hx | hx
    · omega
    · have := hxr.1 hx; omega
set_option maxRecDepth 8000 in
set_option maxHeartbeats 4000000 in
theorem Likely_walk (b m c a : Int) (w : World) : Calls Try.prog 8 #[.agg (rc b m c a)] w fun e w' => e = .returned (.bool true) ∧ Below w.heap.size w w' := by
  have HKN := Lib.hid known_any
  have H1 := Lib.hid (fun w => Best_any m c a w)
  by_cases hE : beE m c a = 0
  · rw [hE] at H1
    cases hk : beK m c a
    · rw [hk] at H1
      clear hE hk
      generalize beV m c a = x at *
      have B0 := Lib.hid (Below.refl w.heap.size w)
      go_enter Try.func8, Try.ntmps8
      have B1 := Lib.hid (B0.out.alloc B0.out.size (.cells (rc b m c a) 28))
      have gx := heap_alloc_new w (.cells (rc b m c a) 28)
      have x0 := (blk_cell (j := 0) gx).trans (show _ = some (.int .i64 b) from rfl)
      have x1 := (blk_cell (j := 1) gx).trans (show _ = some (.int .i64 m) from rfl)
      have x2 := (blk_cell (j := 2) gx).trans (show _ = some (.int .i64 c) from rfl)
      have x3 := (blk_cell (j := 3) gx).trans (show _ = some (.int .i64 a) from rfl)
      have Gx := Lib.hid gx
      clear gx
      go_wp2_with fail
      refine (H1.out (w.alloc (.cells (rc b m c a) 28))).mono ?_
      rintro e w2 ⟨rfl, hb⟩
      have B2 := Lib.hid (B1.out.trans (hb.mono B1.out.size))
      have gx := (hb.block _ (lt_of_block Gx.out)).trans Gx.out
      clear x0 x1 x2 x3
      have x0 := (blk_cell (j := 0) gx).trans (show _ = some (.int .i64 b) from rfl)
      have x1 := (blk_cell (j := 1) gx).trans (show _ = some (.int .i64 m) from rfl)
      have x2 := (blk_cell (j := 2) gx).trans (show _ = some (.int .i64 c) from rfl)
      have x3 := (blk_cell (j := 3) gx).trans (show _ = some (.int .i64 a) from rfl)
      have Gx := Lib.hid gx
      clear hb gx
      go_wp2_with fail
      refine (HKN.out w2).mono ?_
      rintro e w3 ⟨rfl, hb⟩
      have B3 := Lib.hid (B2.out.trans (hb.mono B2.out.size))
      have gx := (hb.block _ (lt_of_block Gx.out)).trans Gx.out
      clear x0 x1 x2 x3
      have x0 := (blk_cell (j := 0) gx).trans (show _ = some (.int .i64 b) from rfl)
      have x1 := (blk_cell (j := 1) gx).trans (show _ = some (.int .i64 m) from rfl)
      have x2 := (blk_cell (j := 2) gx).trans (show _ = some (.int .i64 c) from rfl)
      have x3 := (blk_cell (j := 3) gx).trans (show _ = some (.int .i64 a) from rfl)
      have Gx := Lib.hid gx
      clear hb gx
      go_wp2_with fail
      go_ret
      exact ⟨rfl, B3.out⟩
    · rw [hk] at H1
      by_cases ha : a = 0
      · have e1 : (a == 0) = true := by simpa using ha
        clear hE hk ha
        generalize beV m c a = x at *
        have B0 := Lib.hid (Below.refl w.heap.size w)
        go_enter Try.func8, Try.ntmps8
        have B1 := Lib.hid (B0.out.alloc B0.out.size (.cells (rc b m c a) 28))
        have gx := heap_alloc_new w (.cells (rc b m c a) 28)
        have x0 := (blk_cell (j := 0) gx).trans (show _ = some (.int .i64 b) from rfl)
        have x1 := (blk_cell (j := 1) gx).trans (show _ = some (.int .i64 m) from rfl)
        have x2 := (blk_cell (j := 2) gx).trans (show _ = some (.int .i64 c) from rfl)
        have x3 := (blk_cell (j := 3) gx).trans (show _ = some (.int .i64 a) from rfl)
        have Gx := Lib.hid gx
        clear gx
        go_wp2_with fail
        refine (H1.out (w.alloc (.cells (rc b m c a) 28))).mono ?_
        rintro e w2 ⟨rfl, hb⟩
        have B2 := Lib.hid (B1.out.trans (hb.mono B1.out.size))
        have gx := (hb.block _ (lt_of_block Gx.out)).trans Gx.out
        clear x0 x1 x2 x3
        have x0 := (blk_cell (j := 0) gx).trans (show _ = some (.int .i64 b) from rfl)
        have x1 := (blk_cell (j := 1) gx).trans (show _ = some (.int .i64 m) from rfl)
        have x2 := (blk_cell (j := 2) gx).trans (show _ = some (.int .i64 c) from rfl)
        have x3 := (blk_cell (j := 3) gx).trans (show _ = some (.int .i64 a) from rfl)
        have Gx := Lib.hid gx
        clear hb gx
        go_wp2_with fail
        refine (HKN.out w2).mono ?_
        rintro e w3 ⟨rfl, hb⟩
        have B3 := Lib.hid (B2.out.trans (hb.mono B2.out.size))
        have gx := (hb.block _ (lt_of_block Gx.out)).trans Gx.out
        clear x0 x1 x2 x3
        have x0 := (blk_cell (j := 0) gx).trans (show _ = some (.int .i64 b) from rfl)
        have x1 := (blk_cell (j := 1) gx).trans (show _ = some (.int .i64 m) from rfl)
        have x2 := (blk_cell (j := 2) gx).trans (show _ = some (.int .i64 c) from rfl)
        have x3 := (blk_cell (j := 3) gx).trans (show _ = some (.int .i64 a) from rfl)
        have Gx := Lib.hid gx
        clear hb gx
        go_wp2_with fail
        go_ret
        exact ⟨rfl, B3.out⟩
      · have e1 : (a == 0) = false := by simpa using ha
        obtain ⟨q1, q2⟩ := likely hk ha
        have hk2 := hk
        unfold beK at hk2
        simp only [Bool.and_eq_true, decide_eq_true_eq] at hk2
        obtain ⟨hv, ⟨h1, h2⟩, h3⟩ := hk2
        obtain ⟨⟨m0, m1⟩, ⟨c0, c1⟩, a0, a1⟩ := allB3 hv
        have p1 : m * c ≤ 60 * 60 := Int.mul_le_mul m1 c1 c0 (by omega)
        have p0 : 0 ≤ m * c := Int.mul_nonneg m0 c0
        have hap : 0 < a := by omega
        have d0 : 0 ≤ m * c / a := Int.ediv_nonneg p0 a0
        have d1 : m * c / a ≤ 3600 := Int.le_trans (Int.ediv_le_self _ p0) p1
        have e2 : Int.tmod (m * c) a = m * c % a := Int.tmod_eq_emod_of_nonneg p0
        have hane : a ≠ 0 := ha
        have WA := Lib.hid (show IntKind.i64.wrap (m + c) = m + c from wrap_nn (by omega) (by omega))
        have WB := Lib.hid (show IntKind.i64.wrap (m + c - a) = m + c - a from wrap_nn (by omega) (by omega))
        have WC := Lib.hid (show IntKind.i64.wrap (m * c) = m * c from wrap_nn p0 (by omega))
        clear hE hk hv ha
        generalize beV m c a = x at *
        have e6 : decide (m + c - a ≤ (x : Int)) = true := decide_eq_true q2
        by_cases hr : m * c % a = 0
        · have e3 : (m * c % a == 0) = true := by simpa using hr
          have e3' : (Int.tmod (m * c) a == 0) = true := by rw [e2]; exact e3
          by_cases h60 : m * c / a ≤ 60
          · have e4 : decide (m * c / a ≤ 60) = true := decide_eq_true h60
            by_cases hlt : m + c - a < m * c / a
            · have e5 : decide (m + c - a < m * c / a) = true := decide_eq_true hlt
              rw [if_pos ⟨hr, h60, hlt⟩] at q1
              have e7 : ((x : Int) == m * c / a - 1) = true := by simpa using q1
              have Q1 := Lib.hid q1
              clear q1 q2 hr h60 hlt
              have B0 := Lib.hid (Below.refl w.heap.size w)
              go_enter Try.func8, Try.ntmps8
              have B1 := Lib.hid (B0.out.alloc B0.out.size (.cells (rc b m c a) 28))
              have gx := heap_alloc_new w (.cells (rc b m c a) 28)
              have x0 := (blk_cell (j := 0) gx).trans (show _ = some (.int .i64 b) from rfl)
              have x1 := (blk_cell (j := 1) gx).trans (show _ = some (.int .i64 m) from rfl)
              have x2 := (blk_cell (j := 2) gx).trans (show _ = some (.int .i64 c) from rfl)
              have x3 := (blk_cell (j := 3) gx).trans (show _ = some (.int .i64 a) from rfl)
              have Gx := Lib.hid gx
              clear gx
              go_wp2_with fail
              refine (H1.out (w.alloc (.cells (rc b m c a) 28))).mono ?_
              rintro e w2 ⟨rfl, hb⟩
              have B2 := Lib.hid (B1.out.trans (hb.mono B1.out.size))
              have gx := (hb.block _ (lt_of_block Gx.out)).trans Gx.out
              clear x0 x1 x2 x3
              have x0 := (blk_cell (j := 0) gx).trans (show _ = some (.int .i64 b) from rfl)
              have x1 := (blk_cell (j := 1) gx).trans (show _ = some (.int .i64 m) from rfl)
              have x2 := (blk_cell (j := 2) gx).trans (show _ = some (.int .i64 c) from rfl)
              have x3 := (blk_cell (j := 3) gx).trans (show _ = some (.int .i64 a) from rfl)
              have Gx := Lib.hid gx
              clear hb gx
              go_wp2_with fail
              skip
              go_quiet (fail)
              simp only [WA.out, WB.out, WC.out]
              go_wp2_with fail
              refine (HKN.out _).mono ?_
              rintro e w9 ⟨rfl, hb⟩
              have B9 := Lib.hid ((bdN B2.out nq).trans (hb.mono B2.out.size))
              clear hb
              go_wp2_with fail
              go_ret
              exact ⟨rfl, B9.out⟩
            · have e5 : decide (m + c - a < m * c / a) = false := decide_eq_false hlt
              rw [if_neg (by omega)] at q1
              have e7 : ((x : Int) == min (m * c / a) 60) = true := by simpa using q1
              have Q1 := Lib.hid q1
              clear q1 q2 hr h60 hlt
              have B0 := Lib.hid (Below.refl w.heap.size w)
              go_enter Try.func8, Try.ntmps8
              have B1 := Lib.hid (B0.out.alloc B0.out.size (.cells (rc b m c a) 28))
              have gx := heap_alloc_new w (.cells (rc b m c a) 28)
              have x0 := (blk_cell (j := 0) gx).trans (show _ = some (.int .i64 b) from rfl)
              have x1 := (blk_cell (j := 1) gx).trans (show _ = some (.int .i64 m) from rfl)
              have x2 := (blk_cell (j := 2) gx).trans (show _ = some (.int .i64 c) from rfl)
              have x3 := (blk_cell (j := 3) gx).trans (show _ = some (.int .i64 a) from rfl)
              have Gx := Lib.hid gx
              clear gx
              go_wp2_with fail
              refine (H1.out (w.alloc (.cells (rc b m c a) 28))).mono ?_
              rintro e w2 ⟨rfl, hb⟩
              have B2 := Lib.hid (B1.out.trans (hb.mono B1.out.size))
              have gx := (hb.block _ (lt_of_block Gx.out)).trans Gx.out
              clear x0 x1 x2 x3
              have x0 := (blk_cell (j := 0) gx).trans (show _ = some (.int .i64 b) from rfl)
              have x1 := (blk_cell (j := 1) gx).trans (show _ = some (.int .i64 m) from rfl)
              have x2 := (blk_cell (j := 2) gx).trans (show _ = some (.int .i64 c) from rfl)
              have x3 := (blk_cell (j := 3) gx).trans (show _ = some (.int .i64 a) from rfl)
              have Gx := Lib.hid gx
              clear hb gx
              go_wp2_with fail
              skip
              go_quiet (fail)
              simp only [WA.out, WB.out, WC.out]
              go_wp2_with fail
              refine (HKN.out _).mono ?_
              rintro e w9 ⟨rfl, hb⟩
              have B9 := Lib.hid ((bdN B2.out nq).trans (hb.mono B2.out.size))
              clear hb
              go_wp2_with fail
              go_ret
              exact ⟨rfl, B9.out⟩
          · have e4 : decide (m * c / a ≤ 60) = false := decide_eq_false h60
            rw [if_neg (by omega)] at q1
            have e7 : ((x : Int) == min (m * c / a) 60) = true := by simpa using q1
            have Q1 := Lib.hid q1
            clear q1 q2 hr h60
            have B0 := Lib.hid (Below.refl w.heap.size w)
            go_enter Try.func8, Try.ntmps8
            have B1 := Lib.hid (B0.out.alloc B0.out.size (.cells (rc b m c a) 28))
            have gx := heap_alloc_new w (.cells (rc b m c a) 28)
            have x0 := (blk_cell (j := 0) gx).trans (show _ = some (.int .i64 b) from rfl)
            have x1 := (blk_cell (j := 1) gx).trans (show _ = some (.int .i64 m) from rfl)
            have x2 := (blk_cell (j := 2) gx).trans (show _ = some (.int .i64 c) from rfl)
            have x3 := (blk_cell (j := 3) gx).trans (show _ = some (.int .i64 a) from rfl)
            have Gx := Lib.hid gx
            clear gx
            go_wp2_with fail
            refine (H1.out (w.alloc (.cells (rc b m c a) 28))).mono ?_
            rintro e w2 ⟨rfl, hb⟩
            have B2 := Lib.hid (B1.out.trans (hb.mono B1.out.size))
            have gx := (hb.block _ (lt_of_block Gx.out)).trans Gx.out
            clear x0 x1 x2 x3
            have x0 := (blk_cell (j := 0) gx).trans (show _ = some (.int .i64 b) from rfl)
            have x1 := (blk_cell (j := 1) gx).trans (show _ = some (.int .i64 m) from rfl)
            have x2 := (blk_cell (j := 2) gx).trans (show _ = some (.int .i64 c) from rfl)
            have x3 := (blk_cell (j := 3) gx).trans (show _ = some (.int .i64 a) from rfl)
            have Gx := Lib.hid gx
            clear hb gx
            go_wp2_with fail
            skip
            go_quiet (fail)
            simp only [WA.out, WB.out, WC.out]
            go_wp2_with fail
            refine (HKN.out _).mono ?_
            rintro e w9 ⟨rfl, hb⟩
            have B9 := Lib.hid ((bdN B2.out nq).trans (hb.mono B2.out.size))
            clear hb
            go_wp2_with fail
            go_ret
            exact ⟨rfl, B9.out⟩
        · have e3 : (m * c % a == 0) = false := by simpa using hr
          have e3' : (Int.tmod (m * c) a == 0) = false := by rw [e2]; exact e3
          rw [if_neg (by omega)] at q1
          have e7 : ((x : Int) == min (m * c / a) 60) = true := by simpa using q1
          have Q1 := Lib.hid q1
          clear q1 q2 hr
          have B0 := Lib.hid (Below.refl w.heap.size w)
          go_enter Try.func8, Try.ntmps8
          have B1 := Lib.hid (B0.out.alloc B0.out.size (.cells (rc b m c a) 28))
          have gx := heap_alloc_new w (.cells (rc b m c a) 28)
          have x0 := (blk_cell (j := 0) gx).trans (show _ = some (.int .i64 b) from rfl)
          have x1 := (blk_cell (j := 1) gx).trans (show _ = some (.int .i64 m) from rfl)
          have x2 := (blk_cell (j := 2) gx).trans (show _ = some (.int .i64 c) from rfl)
          have x3 := (blk_cell (j := 3) gx).trans (show _ = some (.int .i64 a) from rfl)
          have Gx := Lib.hid gx
          clear gx
          go_wp2_with fail
          refine (H1.out (w.alloc (.cells (rc b m c a) 28))).mono ?_
          rintro e w2 ⟨rfl, hb⟩
          have B2 := Lib.hid (B1.out.trans (hb.mono B1.out.size))
          have gx := (hb.block _ (lt_of_block Gx.out)).trans Gx.out
          clear x0 x1 x2 x3
          have x0 := (blk_cell (j := 0) gx).trans (show _ = some (.int .i64 b) from rfl)
          have x1 := (blk_cell (j := 1) gx).trans (show _ = some (.int .i64 m) from rfl)
          have x2 := (blk_cell (j := 2) gx).trans (show _ = some (.int .i64 c) from rfl)
          have x3 := (blk_cell (j := 3) gx).trans (show _ = some (.int .i64 a) from rfl)
          have Gx := Lib.hid gx
          clear hb gx
          go_wp2_with fail
          skip
          go_quiet (fail)
          simp only [WA.out, WB.out, WC.out]
          go_wp2_with fail
          refine (HKN.out _).mono ?_
          rintro e w9 ⟨rfl, hb⟩
          have B9 := Lib.hid ((bdN B2.out nq).trans (hb.mono B2.out.size))
          clear hb
          go_wp2_with fail
          go_ret
          exact ⟨rfl, B9.out⟩
  · have e1 : (beE m c a != 0) = true := by simpa using hE
    clear hE
    generalize beV m c a = x at *
    generalize beK m c a = k at *
    generalize beE m c a = E at *
    have B0 := Lib.hid (Below.refl w.heap.size w)
    go_enter Try.func8, Try.ntmps8
    have B1 := Lib.hid (B0.out.alloc B0.out.size (.cells (rc b m c a) 28))
    have gx := heap_alloc_new w (.cells (rc b m c a) 28)
    have x0 := (blk_cell (j := 0) gx).trans (show _ = some (.int .i64 b) from rfl)
    have x1 := (blk_cell (j := 1) gx).trans (show _ = some (.int .i64 m) from rfl)
    have x2 := (blk_cell (j := 2) gx).trans (show _ = some (.int .i64 c) from rfl)
    have x3 := (blk_cell (j := 3) gx).trans (show _ = some (.int .i64 a) from rfl)
    have Gx := Lib.hid gx
    clear gx
    go_wp2_with fail
    refine (H1.out (w.alloc (.cells (rc b m c a) 28))).mono ?_
    rintro e w2 ⟨rfl, hb⟩
    have B2 := Lib.hid (B1.out.trans (hb.mono B1.out.size))
    have gx := (hb.block _ (lt_of_block Gx.out)).trans Gx.out
    clear x0 x1 x2 x3
    have x0 := (blk_cell (j := 0) gx).trans (show _ = some (.int .i64 b) from rfl)
    have x1 := (blk_cell (j := 1) gx).trans (show _ = some (.int .i64 m) from rfl)
    have x2 := (blk_cell (j := 2) gx).trans (show _ = some (.int .i64 c) from rfl)
    have x3 := (blk_cell (j := 3) gx).trans (show _ = some (.int .i64 a) from rfl)
    have Gx := Lib.hid gx
    clear hb gx
    go_wp2_with fail
    refine (HKN.out w2).mono ?_
    rintro e w3 ⟨rfl, hb⟩
    have B3 := Lib.hid (B2.out.trans (hb.mono B2.out.size))
    have gx := (hb.block _ (lt_of_block Gx.out)).trans Gx.out
    clear x0 x1 x2 x3
    have x0 := (blk_cell (j := 0) gx).trans (show _ = some (.int .i64 b) from rfl)
    have x1 := (blk_cell (j := 1) gx).trans (show _ = some (.int .i64 m) from rfl)
    have x2 := (blk_cell (j := 2) gx).trans (show _ = some (.int .i64 c) from rfl)
    have x3 := (blk_cell (j := 3) gx).trans (show _ = some (.int .i64 a) from rfl)
    have Gx := Lib.hid gx
    clear hb gx
    go_wp2_with fail
    go_ret
    exact ⟨rfl, B3.out⟩
end Go.Proofs.Ytgpghnhpbjnhkaa

/-
  The walks of open, Turn, Mirror of the reference. No condition.
-/
import Derived.Test.YtnnlbllkckakbaaDoorWi4
import Derived.Laws.CopyOwn
namespace Go.Proofs.YtnnlbllkckakbaaDoor
open Go.RowKit
set_option linter.unusedVariables false

theorem half_bit {x k : Nat} : ((((x / 2 ^ k : Nat)) : Int) % 2 == 1) = x.testBit k := by
  have h := bit_div (n := x) (j := k)
  generalize x / 2 ^ k = y at *
  cases hb : x.testBit k
  · rw [hb, if_neg (by decide)] at h
    exact beq_eq_false_iff_ne.2 (by omega)
  · rw [hb, if_pos rfl] at h
    exact beq_iff_eq.2 (by omega)
theorem half_next (x k : Nat) : x / 2 ^ k / 2 = x / 2 ^ (k + 1) := by rw [Nat.div_div_eq_div_mul, ← Nat.pow_succ]
set_option maxRecDepth 4000 in
theorem ropen_any (x : Nat) (w : World) (hx : x < 4294967296) :
    Calls Tryd.prog 68 #[.int .i64 x] w fun e w' => e = .returned (.agg (bools x.testBit).toArray) ∧ Below w.heap.size w w' := by
  obtain ⟨W1, hW1, hblk1, hs1, hb1⟩ := one_arr x.testBit w 70
  obtain ⟨W2, hW2, hblk2, hs2, hb2⟩ := one_arr x.testBit W1 70
  have R1 := Lib.hid ((hb2.block _ hs1).trans hblk1)
  have B2 := Lib.hid (hb1.trans (hb2.mono hb1.size))
  have BK := Lib.hid hblk2
  have HS1 := Lib.hid hs1
  clear hblk1 hs1 hb1 hblk2 hs2 hb2
  go_enter Tryd.func68, Tryd.ntmps68
  go_wp2_with fail
  clear hW1 hW2
  go_loopw [0, 4] (fun n p wr => ∃ k : Nat, k ≤ 32 ∧ n = .int .i64 ((x / 2 ^ k : Nat) : Int) ∧ p = .int .i64 k ∧ wr.heap[w.heap.size]? = some (.cells (bools (upTo x.testBit 0)).toArray 70 (0, 0)) ∧ wr.heap[W1.heap.size]? = some (.cells (bools (upTo x.testBit k)).toArray 70 (0, 0)) ∧ Below w.heap.size w wr) (fun _ p _ => 32 - (intOf p).toNat)
  case atStart => exact ⟨0, by omega, by simp, rfl, R1.out, BK.out, B2.out⟩
  case round =>
    obtain ⟨k, hk, rfl, rfl, hr, hblk, hb⟩ := hrel
    have RK := Lib.hid hr
    have BK := Lib.hid hblk
    have BW := Lib.hid hb
    have hg : W1.heap.size < wr.heap.size := lt_of_block hblk
    clear hr hblk hb
    by_cases hlt : k < 32
    · have hbit := half_bit (x := x) (k := k)
      have HN := Lib.hid (half_next x k)
      have hyl : x / 2 ^ k < 4294967296 := Nat.lt_of_le_of_lt (Nat.div_le_self _ _) hx
      have hcell : wr.cell? ⟨W1.heap.size, k, none⟩ = some (.bool (upTo x.testBit k k)) := by rw [blk_cell BK.out, List.getElem?_toArray]; exact bools_at hlt
      have hfree := blk_free BK.out k
      generalize x / 2 ^ k = y at *
      have hy2 : 0 ≤ (y : Int) := by omega
      go_wp2_with fail
      go_roundw
      case rel => exact ⟨k + 1, by omega, by rw [← HN.out]; simp, by go_num, (heap_setCell_other _ _ _ _ (Nat.ne_of_lt HS1.out)).trans RK.out, by rw [blk_set BK.out, upTo_next _ k _ rfl], Below.setCell BW.out (Nat.le_of_lt HS1.out) _⟩
      case measure => simp [intOf]; omega
    · have hks : k = 32 := by omega
      subst hks
      have hgo := lt_of_block RK.out
      go_wp2_with (first | ((with_reducible show wpList _ _ _ (⟨some 16, _, _, _, _, _⟩ :: _) _ _); refine wpList_load_row rfl 70 (.tmp 3) rfl W1.heap.size rfl _ _ _ _ BK.out Tryd.underlying70 rfl (size_bools _) ?_) | (refine wpList_store_row rfl 70 (.tmp 2) (.tmp 16) rfl w.heap.size _ rfl rfl _ _ RK.out (size_bools _) (by simp [bools]) (by simp [bools, Value.oneCell']) ?_))
      (try simp only [Exit.inBlock, Exit.then])
      refine bodyPost_ret (v := .agg (bools (upTo x.testBit 32)).toArray) (results_cell_row rfl _ _ w.heap.size 70 _ _ _ rfl (setRow_heap _ _ _ _ _ _ RK.out) Tryd.underlying70 rfl (size_bools _)) rfl ⟨by rw [upTo_all], below_setRow BW.out (Nat.le_refl _) _⟩
set_option maxHeartbeats 1600000 in
theorem rTurn_any (n by' : Int) (w : World) : Calls Tryd.prog 24 #[.int .i64 n, .int .i64 by'] w fun e w' => e = .returned (.tuple #[.int .i64 (turV n by'), .int .i64 (setE n)]) ∧ Below w.heap.size w w' := by
  have HI := Lib.hid (fun w => risSet_any n w)
  unfold turV setE
  by_cases h : setB n = true
  · rw [if_pos h, if_pos h]
    rw [h] at HI
    obtain ⟨x, rfl, hx⟩ := set_nat h
    rw [Int.toNat_natCast]
    have hs := byN_lt by'
    have hsb : by' % 32 = (byN by' : Int) := by unfold byN; omega
    have HO := Lib.hid (fun w => ropen_any x w hx)
    have HNum := Lib.hid (fun w => rnumber_any (fun j => x.testBit ((j + 32 - byN by') % 32)) w)
    rw [rot_bits hx hs] at HNum
    have HA := Lib.hid (fun w => around_any by' w)
    rw [hsb] at HA
    generalize byN by' = s at *
    have HP := Lib.hid (fun k (hk : k < 32) => place_next x.testBit (fun j => (j + 32 - s) % 32) k ((k + s) % 32) _ rfl (fun j hj => by omega))
    have HZ := Lib.hid (place_none x.testBit (fun j => (j + 32 - s) % 32))
    have HE := Lib.hid (place_all x.testBit (fun j => (j + 32 - s) % 32) (fun j hj => Nat.mod_lt _ (by decide)))
    have HB := Lib.hid hsb
    clear h hsb
    go_enter Tryd.func24, Tryd.ntmps24
    go_wp2_with fail
    refine (HI.out w).mono ?_
    rintro e w' ⟨rfl, rfl⟩
    go_wp2_with fail
    refine (HO.out w).mono ?_
    rintro e w1 ⟨rfl, hb⟩
    have B1 := Lib.hid hb
    clear hb
    obtain ⟨W1, hW1, hblk1, hs1, hb1⟩ := one_arr (fun _ => false) w1 70
    obtain ⟨W2, hW2, hblk2, hs2, hb2⟩ := one_arr x.testBit (W1.setRow w1.heap.size (bools x.testBit).toArray) 70
    have R0 := Lib.hid (setRow_heap W1 _ _ (bools x.testBit).toArray _ _ hblk1)
    have R1 := Lib.hid (hblk1)
    clear hblk1
    go_wp2_with (refine wpList_store_row rfl 70 (.tmp 6) (.tmp 13) rfl w1.heap.size _ rfl rfl _ _ R1.out (size_bools _) (by simp [bools]) (by simp [bools, Value.oneCell']) ?_)
    have hz : (W1.setRow w1.heap.size (bools x.testBit).toArray).heap.size = W1.heap.size := size_setRow _ _ _
    rw [hz] at hblk2 hs2 hb2
    have BK := Lib.hid hblk2
    have RK := Lib.hid ((hb2.block _ hs1).trans R0.out)
    have B2 := Lib.hid (B1.out.trans ((below_setRow hb1 (Nat.le_refl _) _).trans (hb2.mono hb1.size) |>.mono B1.out.size))
    have HS1 := Lib.hid hs1
    have hs3 := B1.out.size
    clear hW1 hW2 hz hblk2 hs2 hb2 hs1 hb1
    have bt := HB.out
    go_loopw [8] (fun p wr => ∃ k : Nat, k ≤ 32 ∧ p = .int .i64 k ∧ wr.heap[w1.heap.size]? = some (.cells (bools x.testBit).toArray 70 (0, 0)) ∧ wr.heap[W1.heap.size]? = some (.cells (bools (fun j => upTo x.testBit k ((j + 32 - s) % 32))).toArray 70 (0, 0)) ∧ Below w.heap.size w wr) (fun p _ => 32 - (intOf p).toNat)
    case atStart => exact ⟨0, by omega, rfl, RK.out, by rw [HZ.out]; exact BK.out, B2.out⟩
    case round =>
      obtain ⟨k, hk, rfl, hr, hblk, hb⟩ := hrel
      have RK := Lib.hid hr
      have BK := Lib.hid hblk
      have BW := Lib.hid hb
      clear hr hblk hb
      by_cases hlt : k < 32
      · obtain ⟨t, ht, ht2⟩ : ∃ t : Nat, ((k : Int) + s) % 32 = (t : Int) ∧ t = (k + s) % 32 := ⟨(k + s) % 32, by omega, rfl⟩
        have HT := Lib.hid ht2
        have htl : t < 32 := by omega
        have e1 : IntKind.i64.wrap ((k : Int) + s) = (k : Int) + s := by rw [IntKind.wrap_i64]; omega
        have hcell : wr.cell? ⟨w1.heap.size, k, none⟩ = some (.bool (x.testBit k)) := by rw [blk_cell RK.out, List.getElem?_toArray]; exact bools_at hlt
        have hcell2 : wr.cell? ⟨W1.heap.size, t, none⟩ = some (.bool (upTo x.testBit k ((t + 32 - s) % 32))) := by rw [blk_cell BK.out, List.getElem?_toArray]; exact bools_at htl
        have hfree := blk_free BK.out t
        have HQ := Lib.hid (HP.out k hlt)
        rw [← ht2] at HQ
        generalize x.testBit k = q at *
        clear ht2
        go_wp2_with fail
        go_region_with ((go_at_call 69; refine (around_any _ _).mono ?_; rintro e w' ⟨rfl, rfl⟩))
        all_goals go_wp2_with fail
        all_goals
          refine ⟨⟨k + 1, by omega, by go_num, (heap_setCell_other _ _ _ _ (Nat.ne_of_lt HS1.out)).trans RK.out, ?_, Below.drew (Below.setCell BW.out (by have := HS1.out; have := hs3; simp; omega) _)⟩, by simp [intOf]; omega⟩
          rw [← HQ.out]
          exact blk_set BK.out _ _
      · have hks : k = 32 := by omega
        subst hks
        go_wp2_with ((with_reducible show wpList _ _ _ (⟨some 27, _, _, _, _, _⟩ :: _) _ _); refine wpList_load_row rfl 70 (.tmp 7) rfl W1.heap.size rfl _ _ _ _ BK.out Tryd.underlying70 rfl (size_bools _) ?_)
        rw [HE.out]
        refine (HNum.out wr).mono ?_
        rintro e w2 ⟨rfl, hb⟩
        go_wp2_with fail
        go_ret2
        exact ⟨rfl, BW.out.trans (hb.mono BW.out.size)⟩
  · rw [if_neg h, if_neg h]
    rw [Bool.not_eq_true] at h
    rw [h] at HI
    clear h
    go_enter Tryd.func24, Tryd.ntmps24
    go_wp2_with fail
    refine (HI.out w).mono ?_
    rintro e w' ⟨rfl, rfl⟩
    go_wp2_with fail
    go_ret2
    exact ⟨rfl, Below.refl _ _⟩
set_option maxHeartbeats 1600000 in
theorem rMirror_any (n : Int) (w : World) : Calls Tryd.prog 26 #[.int .i64 n] w fun e w' => e = .returned (.tuple #[.int .i64 (mirV n), .int .i64 (setE n)]) ∧ Below w.heap.size w w' := by
  have HI := Lib.hid (fun w => risSet_any n w)
  unfold mirV setE
  by_cases h : setB n = true
  · rw [if_pos h, if_pos h]
    rw [h] at HI
    obtain ⟨x, rfl, hx⟩ := set_nat h
    rw [Int.toNat_natCast]
    have HO := Lib.hid (fun w => ropen_any x w hx)
    have HNum := Lib.hid (fun w => rnumber_any (fun j => x.testBit ((32 - j) % 32)) w)
    rw [mir_bits hx] at HNum
    have HP := Lib.hid (fun k (hk : k < 32) => place_next x.testBit (fun j => (32 - j) % 32) k ((32 - k) % 32) _ rfl (fun j hj => by omega))
    have HZ := Lib.hid (place_none x.testBit (fun j => (32 - j) % 32))
    have HE := Lib.hid (place_all x.testBit (fun j => (32 - j) % 32) (fun j hj => Nat.mod_lt _ (by decide)))
    clear h
    go_enter Tryd.func26, Tryd.ntmps26
    go_wp2_with fail
    refine (HI.out w).mono ?_
    rintro e w' ⟨rfl, rfl⟩
    go_wp2_with fail
    refine (HO.out w).mono ?_
    rintro e w1 ⟨rfl, hb⟩
    have B1 := Lib.hid hb
    clear hb
    obtain ⟨W1, hW1, hblk1, hs1, hb1⟩ := one_arr (fun _ => false) w1 70
    obtain ⟨W2, hW2, hblk2, hs2, hb2⟩ := one_arr x.testBit (W1.setRow w1.heap.size (bools x.testBit).toArray) 70
    have R0 := Lib.hid (setRow_heap W1 _ _ (bools x.testBit).toArray _ _ hblk1)
    have R1 := Lib.hid (hblk1)
    clear hblk1
    go_wp2_with (refine wpList_store_row rfl 70 (.tmp 4) (.tmp 11) rfl w1.heap.size _ rfl rfl _ _ R1.out (size_bools _) (by simp [bools]) (by simp [bools, Value.oneCell']) ?_)
    have hz : (W1.setRow w1.heap.size (bools x.testBit).toArray).heap.size = W1.heap.size := size_setRow _ _ _
    rw [hz] at hblk2 hs2 hb2
    have BK := Lib.hid hblk2
    have RK := Lib.hid ((hb2.block _ hs1).trans R0.out)
    have B2 := Lib.hid (B1.out.trans ((below_setRow hb1 (Nat.le_refl _) _).trans (hb2.mono hb1.size) |>.mono B1.out.size))
    have HS1 := Lib.hid hs1
    have hs3 := B1.out.size
    clear hW1 hW2 hz hblk2 hs2 hb2 hs1 hb1
    go_loopw [6] (fun p wr => ∃ k : Nat, k ≤ 32 ∧ p = .int .i64 k ∧ wr.heap[w1.heap.size]? = some (.cells (bools x.testBit).toArray 70 (0, 0)) ∧ wr.heap[W1.heap.size]? = some (.cells (bools (fun j => upTo x.testBit k ((32 - j) % 32))).toArray 70 (0, 0)) ∧ Below w.heap.size w wr) (fun p _ => 32 - (intOf p).toNat)
    case atStart => exact ⟨0, by omega, rfl, RK.out, by rw [HZ.out]; exact BK.out, B2.out⟩
    case round =>
      obtain ⟨k, hk, rfl, hr, hblk, hb⟩ := hrel
      have RK := Lib.hid hr
      have BK := Lib.hid hblk
      have BW := Lib.hid hb
      clear hr hblk hb
      by_cases hlt : k < 32
      · obtain ⟨t, ht, ht2⟩ : ∃ t : Nat, (-(k : Int)) % 32 = (t : Int) ∧ t = (32 - k) % 32 := ⟨(32 - k) % 32, by omega, rfl⟩
        have HT := Lib.hid ht2
        have htl : t < 32 := by omega
        have e1 : IntKind.i64.wrap (-(k : Int)) = -(k : Int) := by rw [IntKind.wrap_i64]; omega
        have hcell : wr.cell? ⟨w1.heap.size, k, none⟩ = some (.bool (x.testBit k)) := by rw [blk_cell RK.out, List.getElem?_toArray]; exact bools_at hlt
        have hcell2 : wr.cell? ⟨W1.heap.size, t, none⟩ = some (.bool (upTo x.testBit k ((32 - t) % 32))) := by rw [blk_cell BK.out, List.getElem?_toArray]; exact bools_at htl
        have hfree := blk_free BK.out t
        have HQ := Lib.hid (HP.out k hlt)
        rw [← ht2] at HQ
        generalize x.testBit k = q at *
        clear ht2
        go_wp2_with fail
        go_region_with ((go_at_call 69; refine (around_any _ _).mono ?_; rintro e w' ⟨rfl, rfl⟩))
        all_goals go_wp2_with fail
        all_goals
          refine ⟨⟨k + 1, by omega, by go_num, (heap_setCell_other _ _ _ _ (Nat.ne_of_lt HS1.out)).trans RK.out, ?_, Below.drew (Below.setCell BW.out (by have := HS1.out; have := hs3; simp; omega) _)⟩, by simp [intOf]; omega⟩
          rw [← HQ.out]
          exact blk_set BK.out _ _
      · have hks : k = 32 := by omega
        subst hks
        go_wp2_with ((with_reducible show wpList _ _ _ (⟨some 23, _, _, _, _, _⟩ :: _) _ _); refine wpList_load_row rfl 70 (.tmp 5) rfl W1.heap.size rfl _ _ _ _ BK.out Tryd.underlying70 rfl (size_bools _) ?_)
        rw [HE.out]
        refine (HNum.out wr).mono ?_
        rintro e w2 ⟨rfl, hb⟩
        go_wp2_with fail
        go_ret2
        exact ⟨rfl, BW.out.trans (hb.mono BW.out.size)⟩
  · rw [if_neg h, if_neg h]
    rw [Bool.not_eq_true] at h
    rw [h] at HI
    clear h
    go_enter Tryd.func26, Tryd.ntmps26
    go_wp2_with fail
    refine (HI.out w).mono ?_
    rintro e w' ⟨rfl, rfl⟩
    go_wp2_with fail
    go_ret2
    exact ⟨rfl, Below.refl _ _⟩
end Go.Proofs.YtnnlbllkckakbaaDoor

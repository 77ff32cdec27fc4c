/-
  In how many ways a text is heard: the reference's table.
-/
import Derived.Test.YtjongjndoaojnaaHd1
import Derived.Test.YtjongjndoaojnaaTx1
namespace Go.Proofs.Ytjongjndoaojnaa
open Go.RowKit
set_option linter.unusedVariables false

set_option maxRecDepth 8000 in
set_option maxHeartbeats 2000000 in
theorem rheard_any (A : Option Addr) (c : Nat) (C : List ByteArray) (t : ByteArray) (w : World) (hr : Rd w w.heap.size A (txts C)) (hV : Vd C) (ht60 : t.size ≤ 60) :
    Calls Try.prog 62 #[.slice A C.length c, .string t] w fun e w' => ∃ mb : Nat, e = .returned (.slice (some ⟨mb, 0, none⟩) (t.size + 1) (t.size + 1)) ∧ w'.heap[mb]? = some (.cells (ints (rowZ (tab C (bl t) 0) (t.size + 1))).toArray 3 (0, 0)) ∧ w.heap.size ≤ mb ∧ Below w.heap.size w w' := by
  have HR := Lib.hid hr
  clear hr
  have HV := Lib.hid hV
  have HC := Lib.hid (show ∀ s ∈ C, 1 ≤ s.size from fun s hs => (sgB_iff.1 (HV.out.sg s hs)).1)
  have hC12 := HV.out.le
  have hul : (bl t).length = t.size := bl_len t
  have HUL := Lib.hid hul
  obtain ⟨i0, hi, hz0, hz1, hz2⟩ := info_parts Try.infoInt
  have hw1 : IntKind.i64.wrap ((t.size : Int) + 1) = ((t.size + 1 : Nat) : Int) := by rw [IntKind.wrap_i64]; omega
  clear hV hul
  go_enter Try.func62, Try.ntmps62
  go_wp2_with ((at_make; refine wpList_make_full _ rfl (.tmp 10) (.tmp 10) 23 rfl w.heap.size 3 i0 (.int .i64 0) 1 Try.underlying23 hi hz0 hz1 .i64 .i64 _ _ (t.size + 1) rfl rfl (by omega) (by omega) (by rw [hz2]; omega) (by simp only [maxLen]; omega) (Nat.le_refl _) ?_; intro w3 hown hgr; have MD := Lib.hid (made_ints0 hown hgr); have cme := (blk_cell (j := t.size) MD.out.2).trans (rowZ_at (Nat.lt_succ_self _)); have fme := blk_free MD.out.2 t.size; clear hown hgr))
  have F0 := Lib.hid (show (w3.setCell ⟨w.heap.size, t.size, none⟩ (.int .i64 1)).heap[w.heap.size]? = some (.cells (ints (rowZ (tab C (bl t) t.size) (t.size + 1))).toArray 3 (0, 0)) by
    rw [blk_set MD.out.2 t.size (.int .i64 1)]
    congr 2
    rw [rowZ_set (g := fun p => if p = t.size then 1 else 0) (by simp) (fun j hj => by simp [hj])]
    unfold rowZ ints
    congr 2
    refine List.map_congr_left fun p hp => ?_
    have := List.mem_range.1 hp
    have h2 := tab_end C (bl t) p (by rw [HUL.out]; omega)
    rw [HUL.out] at h2
    rw [h2])
  have O0 := Lib.hid ((Only.refl w.heap.size w3).set t.size (.int .i64 1))
  have R3 := Lib.hid (HR.out.below MD.out.1 (Nat.le_refl _))
  have B3 := Lib.hid MD.out.1
  clear cme fme hw1 MD hi hz0 hz1 hz2
  obtain ⟨mb, hmb⟩ : ∃ x, x = w.heap.size := ⟨_, rfl⟩
  rw [← hmb] at F0 O0 R3
  rw [← hmb]
  have HMB := Lib.hid hmb
  clear hmb
  generalize w3.setCell ⟨mb, t.size, none⟩ (.int .i64 1) = W at *
  go_loopw [6] (fun v wr => ∃ j : Nat, j ≤ t.size ∧ ((j = 0 ∧ v = .int .i64 (-1)) ∨ ∃ n : Nat, j = n + 1 ∧ v = .int .i64 (n : Int)) ∧ wr.heap[mb]? = some (.cells (ints (rowZ (tab C (bl t) j) (t.size + 1))).toArray 3 (0, 0)) ∧ Only mb w3 wr) (fun v _ => (intOf v + 1).toNat)
  case atStart =>
    refine ⟨t.size, Nat.le_refl _, ?_, F0.out, O0.out⟩
    rcases Nat.eq_zero_or_pos t.size with h | h
    · exact .inl ⟨h, by rw [h]; rfl⟩
    · exact .inr ⟨t.size - 1, by omega, by congr 1; omega⟩
  case round =>
    obtain ⟨j, hj, hcase, h1, h2⟩ := hrel
    have F1 := Lib.hid h1
    have O1 := Lib.hid h2
    clear h1 h2
    rcases hcase with ⟨rfl, rfl⟩ | ⟨n, rfl, rfl⟩
    · have c0 : wr.cell? ⟨mb, 0, none⟩ = some (.int .i64 (ways C (bl t) : Nat)) := by rw [blk_cell F1.out]; exact rowZ_at (Nat.succ_pos _)
      go_wp2_with fail
      go_ret
      exact ⟨mb, rfl, F1.out, by rw [HMB.out]; exact Nat.le_refl _, B3.out.trans (O1.out.below (by rw [HMB.out]; exact Nat.le_refl _))⟩
    · have e1 : decide ((0 : Int) ≤ (n : Int)) = true := by simp
      have F2 := Lib.hid (show wr.heap[mb]? = some (.cells (ints (rowZ (tabP C (bl t) n 0) (t.size + 1))).toArray 3 (0, 0)) by
        rw [F1.out]
        unfold rowZ
        congr 4
        refine List.map_congr_left fun p _ => ?_
        rw [tabP_zero])
      have O2 := Lib.hid O1.out
      clear F1
      go_wp2_with fail
      clear e1
      go_loopw [7] (fun i wr => ∃ k : Nat, k ≤ C.length ∧ i = .int .i64 k ∧ wr.heap[mb]? = some (.cells (ints (rowZ (tabP C (bl t) n k) (t.size + 1))).toArray 3 (0, 0)) ∧ Only mb w3 wr) (fun i _ => C.length - (intOf i).toNat)
      case atStart => exact ⟨0, by omega, rfl, F2.out, O2.out⟩
      case round =>
        obtain ⟨k, hk, rfl, h1, h2⟩ := hrel
        have F3 := Lib.hid h1
        have O3 := Lib.hid h2
        clear h1 h2
        by_cases hlt : k < C.length
        · obtain ⟨b2, o2, s, hA2, hd, hc2⟩ := (O3.out.rd R3.out fun b o h => by
            obtain ⟨b', o', e', hb', _⟩ := HR.out.at_ (txts_at (List.getElem?_eq_getElem hlt))
            rw [e'] at h
            injection h with h
            injection h with h1
            have := HMB.out
            omega).txt k hlt
          have HA2 := Lib.hid hA2
          subst hA2
          have b0 : (0 : Int) ≤ (n : Int) := by omega
          have b1 : (n : Int) ≤ (t.size : Int) := by omega
          have HPX := Lib.hid (begins_any (drp t n) s)
          have hpe : pfx s (drp t n) = decide (bl s <+: (bl t).drop n) := by rw [pfx_bl, bl_drp]
          cases hp : pfx s (drp t n)
          · rw [hp] at HPX hpe
            have HM := Lib.hid (fun p => tabP_miss (n := n) hd.out (of_decide_eq_false hpe.symm) p)
            have F4 := Lib.hid (show wr.heap[mb]? = some (.cells (ints (rowZ (tabP C (bl t) n (k + 1)) (t.size + 1))).toArray 3 (0, 0)) by
              rw [F3.out]
              unfold rowZ
              congr 4
              refine List.map_congr_left fun p _ => ?_
              rw [HM.out])
            clear hp hpe
            go_wp2_with fail
            rw [show drp t n = t.extract n t.size from rfl] at HPX
            go_quiet ((go_at_call 65; first | exact qs (HPX.out _) | exact qs0 (HPX.out _)))
            go_wp2_with fail
            go_roundw
            case rel => exact ⟨k + 1, by omega, by go_num, F4.out, O3.out⟩
            case measure => simp [intOf]; omega
          · rw [hp] at HPX hpe
            have hpp := of_decide_eq_true hpe.symm
            have hle := hpp.length_le
            rw [List.length_drop, HUL.out, bl_len] at hle
            have hs1 := HC.out s (List.mem_of_getElem? hd.out)
            have hs12 := (sgB_iff.1 (HV.out.sg s (List.mem_of_getElem? hd.out))).2.1
            have HH := Lib.hid (tabP_hit (n := n) hd.out hpp)
            have HAL := Lib.hid (show tabP C (bl t) n (k + 1) n ≤ 2 ^ 60 by
              unfold tabP
              rw [if_pos rfl]
              refine Nat.le_trans (part_le C _ _) ?_
              rw [part_all HC.out (by intro e; have := congrArg List.length e; rw [List.length_drop, HUL.out] at this; simp at this; omega)]
              exact ways_small HV.out (by rw [List.length_drop, HUL.out]; omega))
            have c0 : wr.cell? ⟨mb, n, none⟩ = some (.int .i64 (tabP C (bl t) n k n : Nat)) := by rw [blk_cell F3.out]; exact rowZ_at (by omega)
            have c1 : wr.cell? ⟨mb, n + s.size, none⟩ = some (.int .i64 (ways C ((bl t).drop (n + s.size)) : Nat)) := by
              rw [blk_cell F3.out, rowZ_at (by omega)]
              unfold tabP tab
              rw [if_neg (by omega), if_pos (by omega)]
            have f0 := blk_free F3.out n
            have HNE := Lib.hid (fun p (h : p ≠ n) => show tabP C (bl t) n (k + 1) p = tabP C (bl t) n k p by unfold tabP; rw [if_neg h, if_neg h])
            obtain ⟨a, ha⟩ : ∃ x, x = tabP C (bl t) n k n := ⟨_, rfl⟩
            obtain ⟨b, hb⟩ : ∃ x, x = ways C ((bl t).drop (n + s.size)) := ⟨_, rfl⟩
            rw [← ha] at c0 HH
            rw [← hb] at c1 HH
            have hab : a + b ≤ 2 ^ 60 := by rw [← HH.out]; exact HAL.out
            have HWR := Lib.hid (show wrap64 ((a : Int) + (b : Int)) = ((a + b : Nat) : Int) by unfold wrap64; omega)
            have b2' : (n : Int) < ((t.size + 1 : Nat) : Int) := by omega
            have b3 : ((n : Int) + (s.size : Int)) < ((t.size + 1 : Nat) : Int) := by omega
            have b4 : (n : Int) < (t.size : Int) + 1 := by omega
            have b5 : ((n : Int) + (s.size : Int)) < (t.size : Int) + 1 := by omega
            have b6 : (0 : Int) ≤ (n : Int) + (s.size : Int) := by omega
            have b7 : ((n : Int) + (s.size : Int)).toNat = n + s.size := by omega
            have F5 := Lib.hid (show (wr.setCell ⟨mb, n, none⟩ (.int .i64 ((a + b : Nat) : Int))).heap[mb]? = some (.cells (ints (rowZ (tabP C (bl t) n (k + 1)) (t.size + 1))).toArray 3 (0, 0)) by
              rw [blk_set F3.out n _, rowZ_set (g := tabP C (bl t) n (k + 1)) (by rw [HH.out]) HNE.out])
            have O5 := Lib.hid (O3.out.set n (.int .i64 ((a + b : Nat) : Int)))
            clear hp hpe hpp hab ha hb
            go_wp2_with fail
            rw [show drp t n = t.extract n t.size from rfl] at HPX
            go_quiet ((go_at_call 65; first | exact qs (HPX.out _) | exact qs0 (HPX.out _)))
            go_wp2_with fail
            go_region
            rw [HWR.out]
            go_wp2_with fail
            go_roundw
            case rel => exact ⟨k + 1, by omega, by go_num, F5.out, O5.out⟩
            case measure => simp [intOf]; omega
        · have hks : k = C.length := by omega
          have F6 := Lib.hid (show wr.heap[mb]? = some (.cells (ints (rowZ (tab C (bl t) n) (t.size + 1))).toArray 3 (0, 0)) by
            rw [F3.out, hks]
            unfold rowZ
            congr 4
            refine List.map_congr_left fun p _ => ?_
            rw [tabP_all HC.out (bl t) n p (by rw [HUL.out]; omega)])
          subst hks
          go_wp2_with fail
          go_roundw
          case rel =>
            refine ⟨n, by omega, ?_, F6.out, O3.out⟩
            rcases Nat.eq_zero_or_pos n with h | h
            · exact .inl ⟨h, by rw [h]; rfl⟩
            · exact .inr ⟨n - 1, by omega, by congr 1; omega⟩
          case measure => simp [intOf]
end Go.Proofs.Ytjongjndoaojnaa

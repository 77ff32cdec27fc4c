/-
  The walk of mostApart. No condition.
-/
import Derived.Test.YtfokmgogbjifbaaWi21
import Derived.Test.YtfokmgogbjifbaaWi19
namespace Go.Proofs.Ytfokmgogbjifbaa
open Go.RowKit
set_option linter.unusedVariables false

theorem Try.infoNum : (Try.prog.info? 45).map (fun i => (i.zero, i.size, i.bytes)) = some (some (.int .u32 0), 1, 4) := by kernel_rfl
/-- The table as far as it is laid: k sets of pipes are done, of the next one q winds. -/
def mF (f : Nat → Nat) (k q j : Nat) : Value := .int .u32 ((if j < k then mv f j else if j = k then bestW f (mv f) k q else 0 : Nat) : Int)
theorem mF_zero (f : Nat → Nat) (N : Nat) : rowV (mF f 0 0) N = (List.replicate N (Value.int .u32 0)).toArray := by
  have e : rowV (mF f 0 0) N = rowV (fun _ => .int .u32 0) N := rowV_congr fun j _ => by
    unfold mF
    rw [if_neg (by omega)]
    by_cases h0 : j = 0
    · rw [if_pos h0]; rfl
    · rw [if_neg h0]; rfl
  rw [e]
  unfold rowV
  congr 1
  rw [List.map_const', List.length_range]
theorem mF_next {f : Nat → Nat} (hf : ∀ p, f p < 9223372036854775808) {k N : Nat} (hk : k < 9223372036854775808) : rowV (mF f k 32) N = rowV (mF f (k + 1) 0) N := rowV_congr fun j _ => by
  unfold mF
  by_cases h : j < k
  · rw [if_pos h, if_pos (by omega)]
  · rw [if_neg h]
    by_cases h2 : j = k
    · rw [if_pos h2, if_pos (by omega), mv_is hk hf, h2]
    · rw [if_neg h2, if_neg (by omega)]
      by_cases h3 : j = k + 1
      · rw [if_pos h3]; rfl
      · rw [if_neg h3]
theorem mF_same {f : Nat → Nat} {k q N : Nat} (h : bestW f (mv f) k (q + 1) = bestW f (mv f) k q) : rowV (mF f k (q + 1)) N = rowV (mF f k q) N := by
  unfold mF
  rw [h]
theorem mF_set {f : Nat → Nat} {k q N c : Nat} (h : bestW f (mv f) k (q + 1) = c) : (rowV (mF f k q) N).setIfInBounds k (.int .u32 (c : Int)) = rowV (mF f k (q + 1)) N := by
  rw [rowV_set]
  refine rowV_congr fun j _ => ?_
  unfold mF
  by_cases hj : j = k
  · rw [if_pos hj, if_neg (by omega), if_pos hj, h]
  · rw [if_neg hj]
    by_cases h1 : j < k
    · rw [if_pos h1, if_pos h1]
    · rw [if_neg h1, if_neg h1, if_neg hj, if_neg hj]
theorem mF_old {f : Nat → Nat} {k q j : Nat} (h : j < k) : mF f k q j = .int .u32 ((mv f j : Nat) : Int) := by unfold mF; rw [if_pos h]
theorem mF_now (f : Nat → Nat) (k q : Nat) : mF f k q k = .int .u32 ((bestW f (mv f) k q : Nat) : Int) := by unfold mF; rw [if_neg (by omega), if_pos rfl]
theorem put_print {x w : Nat} (hx : x < 4294967296) (hw : w < 32) : bits .or .u32 (x : Int) ((2 : Int) ^ w % 4294967296) = ((put x w : Nat) : Int) := by
  have h2 : 2 ^ w < 2 ^ 32 := Nat.pow_lt_pow_right (by omega) hw
  rw [shl32 hw, u32_or_nat _ _ hx h2]
  rfl
theorem count_cnt (x : Nat) (w : World) (hx : x < 4294967296) :
    Calls Try.prog 26 #[.int .u32 x] w fun e w' => e = .returned (.int .i64 (cnt x : Nat)) ∧ ∃ m, w' = w.drewN m := by
  have h := count_any x w hx
  rw [show (listB x.testBit).length = cnt x from cntK_list _ 32] at h
  exact h
theorem made_nums {w w1 : World} {n : Nat} (h : w1.ownsRow w.heap.size 45 1 (.slice (some ⟨w.heap.size, 0, none⟩) n n) n (madeCells (Value.int .u32 0).cells (n * 1)).toList) (hg : w.grownBy w1 none) :
    Below w.heap.size w w1 ∧ w1.heap[w.heap.size]? = some (.cells (List.replicate n (Value.int .u32 0)).toArray 45 (0, 0)) := by
  refine ⟨(Below.refl _ _).grown hg (Nat.le_refl _) (by simp), ?_⟩
  have hcells : (madeCells (Value.int .u32 0).cells (n * 1)).toList = List.replicate n (Value.int .u32 0) := by
    rw [Nat.mul_one]
    exact (toList_madeCells_one (.int .u32 0) n).trans (by simp)
  rw [← hcells]
  exact own_full h
theorem qm {P : Program} {f : FuncId} {args : Array Value} {w : World} {n : Nat} {v : Value} (h : Calls P f args (w.drewN n) fun e w' => e = .returned v ∧ ∃ m, w' = (w.drewN n).drewN m) :
    Calls P f args (w.drewN n) fun e w'' => e = .returned v ∧ ∃ m, w'' = w.drewN m := h.mono fun _ _ ⟨he, m, hm⟩ => ⟨he, n + m, by rw [hm, World.drewN_drewN]⟩
def pipesF (l : List Pt) (p : Nat) : Nat := workN l p
def MadeT (w : World) (f : Nat → Nat) (N : Nat) (e : Ending) (w' : World) : Prop := ∃ g, e = .returned (.slice (some ⟨g, 0, none⟩) N N) ∧ w'.heap[g]? = some (.cells (rowV (mF f N 0) N) 45 (0, 0)) ∧ Below w.heap.size w w'
theorem bsyV_at (l : List Pt) {q : Nat} (h : q < 32) : (bsyV l)[q]? = some (.int .i64 ((workN l q : Nat) : Int)) := by
  unfold bsyV
  rw [rowV_at h]
  unfold bsyF
  rw [if_pos h]
set_option maxRecDepth 4000 in
set_option maxHeartbeats 1600000 in
theorem mostApart_any (A : Option Addr) (c : Nat) (l : List Pt) (w : World) (hr : Rd w w.heap.size A (l.flatMap Pt.cells)) (hn : pipesE l = 0) :
    Calls Try.prog 22 #[.slice A l.length c] w (MadeT w (workN l) (2 ^ l.length)) := by
  have HR := Lib.hid hr
  have HBs := Lib.hid (fun w h => busyPipes_any A c l w h hn)
  obtain ⟨h10, _⟩ := pipesE_zero hn
  have hpow := pow_small h10
  have HSl := Lib.hid (shl_small h10)
  have HAt := Lib.hid (fun q h => bsyV_at l (q := q) h)
  have HSz := Lib.hid (size_row (bsyF l 32))
  have HFl := Lib.hid (fun p => workN_small h10 p)
  have HF63 := Lib.hid (show ∀ p, workN l p < 9223372036854775808 from fun p => by have := workN_small h10 p; omega)
  obtain ⟨f, hf⟩ : ∃ f, workN l = f := ⟨_, rfl⟩
  rw [hf] at HFl HF63 ⊢
  simp only [hf] at HAt
  clear hf
  have HMost := Lib.hid (fun P hP => mv_most HF63.out P hP)
  have HNx := Lib.hid (fun k N h => mF_next HF63.out (k := k) (N := N) h)
  change Hid ((Try.prog.info? 62).map (·.size) = some (bsyV l).size) at HSz
  obtain ⟨i0, hi, hz0, hz1, hz2⟩ := info_parts Try.infoNum
  obtain ⟨j0, hj0, hjz⟩ : ∃ i, Try.prog.info? 3 = some i ∧ i.size = 1 := ⟨_, rfl, rfl⟩
  obtain ⟨N, hN⟩ : ∃ N, 2 ^ l.length = N := ⟨_, rfl⟩
  rw [hN] at hpow HSl ⊢
  clear hN hr hn
  obtain ⟨V, hV⟩ : ∃ V, bsyV l = V := ⟨_, rfl⟩
  have HVs := Lib.hid (show V.size = 32 by rw [← hV]; exact rowV_size _ _)
  have HVo := Lib.hid (show V.all (·.oneCell') = true by rw [← hV]; simp [bsyV, rowV, bsyF, Value.oneCell'])
  rw [hV] at HBs HAt HSz
  clear hV
  go_enter Try.func22, Try.ntmps22
  go_wp2_with fail
  refine (HBs.out w HR.out).mono ?_
  rintro e w1 ⟨rfl, hb⟩
  have B1 := Lib.hid hb
  clear hb
  obtain ⟨W1, hW1, hblk, hs1, hb1⟩ := one_row l w1 62
  have R1 := Lib.hid hblk
  have B2 := Lib.hid (B1.out.trans ((below_setRow hb1 (Nat.le_refl _) V).mono B1.out.size))
  have R2 := Lib.hid (setRow_heap W1 _ _ V _ _ hblk)
  clear hblk hs1 hb1
  go_wp2_with (first | (refine wpList_store_row rfl 62 (.tmp 3) (.tmp 10) rfl w1.heap.size _ rfl rfl _ _ R1.out HSz.out (by rw [HVs.out, rowV_size]) HVo.out ?_) | (at_make; refine wpList_make_full _ rfl (.tmp 13) (.tmp 13) 50 rfl (W1.setRow w1.heap.size V).heap.size 45 i0 (.int .u32 0) 1 Try.underlying50 hi hz0 hz1 .i64 .i64 _ _ N rfl rfl HSl.out HSl.out (by rw [hz2]; omega) (by simp only [maxLen]; omega) (Nat.le_refl _) ?_; intro w3 hown hg; have M := Lib.hid (made_nums hown hg); clear hown hg))
  clear hW1
  have hsz : (W1.setRow w1.heap.size V).heap.size = W1.heap.size := by simp
  rw [hsz] at M
  generalize W1.setRow w1.heap.size V = W2 at *
  have hlt1 : w1.heap.size < W1.heap.size := by have := lt_of_block R2.out; omega
  have hle1 : w.heap.size ≤ W1.heap.size := by have := B2.out.size; omega
  have B3 := Lib.hid (B2.out.trans (M.out.1.mono hle1))
  have R3 := Lib.hid ((M.out.1.block _ hlt1).trans R2.out)
  have M0 := Lib.hid (show w3.heap[W1.heap.size]? = some (.cells (rowV (mF f 0 0) N) 45 (0, 0)) by rw [mF_zero]; exact M.out.2)
  have NE := Lib.hid (show w1.heap.size ≠ W1.heap.size ∧ w.heap.size ≤ W1.heap.size from ⟨by omega, hle1⟩)
  clear hsz hlt1 hle1
  go_loopw [17] (fun i wr => ∃ k : Nat, k ≤ N ∧ i = .int .i64 k ∧ wr.heap[w1.heap.size]? = some (.cells V 62 (0, 0)) ∧ wr.heap[W1.heap.size]? = some (.cells (rowV (mF f k 0) N) 45 (0, 0)) ∧ Below w.heap.size w wr) (fun i _ => N - (intOf i).toNat)
  case atStart => exact ⟨0, by omega, rfl, R3.out, M0.out, B3.out⟩
  case round =>
    obtain ⟨k, hk, rfl, hr, hblk, hb⟩ := hrel
    obtain ⟨wo, rfl⟩ : ∃ wo : World, wo = wr := ⟨_, rfl⟩
    have RK := Lib.hid hr
    have BK := Lib.hid hblk
    have BW := Lib.hid hb
    clear hr hblk hb
    by_cases hlk : k < N
    · have hlki : (k : Int) < (N : Int) := by omega
      go_wp2_with ((with_reducible show wpList _ _ _ (⟨some 20, _, _, _, _, _⟩ :: _) _ _); refine wpList_load_row rfl 62 (.tmp 3) rfl w1.heap.size rfl _ _ _ _ RK.out Try.underlying62 rfl HSz.out ?_)
      go_loopw [21] (fun i wr => ∃ q : Nat, q ≤ 32 ∧ i = .int .i64 q ∧ wr.heap[w1.heap.size]? = some (.cells V 62 (0, 0)) ∧ wr.heap[W1.heap.size]? = some (.cells (rowV (mF f k q) N) 45 (0, 0)) ∧ Below w.heap.size w wr) (fun i _ => 32 - (intOf i).toNat)
      case atStart => exact ⟨0, by omega, rfl, RK.out, BK.out, BW.out⟩
      case round =>
        obtain ⟨q, hq, rfl, hr, hblk, hb⟩ := hrel
        have RV := Lib.hid hr
        have BV := Lib.hid hblk
        have BB := Lib.hid hb
        have hgl : W1.heap.size < wr.heap.size := lt_of_block hblk
        have hgl1 : w1.heap.size < wr.heap.size := lt_of_block hr
        clear hr hblk hb
        by_cases hlq : q < 32
        · have hV := HAt.out q hlq
          have hI := fun w => run_index_arr (P := Try.prog) Try.underlying62 Try.underlying3 rfl hj0 hjz hlq hV w
          have hu := HFl.out q
          have eq32 : decide ((q : Int) < 32) = true := by simp; omega
          have hstep : bestW f (mv f) k (q + 1) = tryW f (mv f) k (bestW f (mv f) k q) q := rfl
          unfold tryW at hstep
          have hlkn : (k : Int) < (N : Int) := by omega
          clear hV
          by_cases h0 : f q = 0
          · have HS := Lib.hid (mF_same (N := N) (hstep.trans (if_neg fun h => h.1 h0)))
            have e0 : ((f q : Int) == 0) = true := by rw [h0]; rfl
            clear hstep h0
            generalize f q = u at *
            go_wp2_with fail
            go_roundw
            case rel => exact ⟨q + 1, by omega, by go_num, RV.out, by rw [HS.out]; exact BV.out, BB.out⟩
            case measure => simp [intOf]; omega
          · have e0 : ((f q : Int) == 0) = false := beq_eq_false_iff_ne.2 (by omega)
            by_cases hd : dif (f q) k = 0
            · have hs := (sub_dif (show k < 9223372036854775808 by omega) (show f q < 9223372036854775808 by omega)).1 hd
              have hdl := dif_lt (show k < 9223372036854775808 by omega) (show f q < 9223372036854775808 by omega) h0 hs
              have e1 : (bits .andNot .i64 (f q : Int) (k : Int) != 0) = false := by
                rw [i64_andNot_nat _ _ (by omega) (by omega), hd]
                rfl
              have e2 : bits .andNot .i64 (k : Int) (f q : Int) = ((dif k (f q) : Nat) : Int) := i64_andNot_nat _ _ (by omega) (by omega)
              have hgd := (HMost.out (dif k (f q)) (by omega)).1.1
              have hgb := ((bestW_good (M := mv f) (P := k) (by omega) HF63.out (fun j hj => (HMost.out j (by omega)).1) q (by omega)).1).1
              have hcd : wr.cell? ⟨W1.heap.size, dif k (f q), none⟩ = some (.int .u32 ((mv f (dif k (f q)) : Nat) : Int)) := by
                rw [blk_cell BV.out, rowV_at (by omega), mF_old hdl]
              have hck : wr.cell? ⟨W1.heap.size, k, none⟩ = some (.int .u32 ((bestW f (mv f) k q : Nat) : Int)) := by
                rw [blk_cell BV.out, rowV_at hlk, mF_now]
              have hfree := blk_free BV.out k
              have HPut := Lib.hid (put_print hgd hlq)
              have hpl := put_lt hgd hlq
              rw [if_pos ⟨h0, hd⟩] at hstep
              have hdN : dif k (f q) < N := by omega
              clear hs h0 hd
              generalize mv f (dif k (f q)) = x at *
              generalize dif k (f q) = d at *
              generalize hbb : bestW f (mv f) k q = b at *
              have HC1 := Lib.hid (fun w => count_cnt (put x q) w hpl)
              have HC2 := Lib.hid (fun w => count_cnt b w hgb)
              have hdi : (d : Int) < (N : Int) := by omega
              have hd0 : (0 : Int) ≤ (d : Int) := by omega
              have hk0 : (0 : Int) ≤ (k : Int) := by omega
              have hcn : cnt (put x q) ≤ 32 := cntK_le _ 32
              have hcb : cnt b ≤ 32 := cntK_le _ 32
              by_cases hlt : cnt b < cnt (put x q)
              · rw [if_pos hlt] at hstep
                have HS := Lib.hid (mF_set (N := N) hstep)
                have e3 : decide (((cnt b : Nat) : Int) < ((cnt (put x q) : Nat) : Int)) = true := by simp; omega
                have e4 : decide (cnt b < cnt (put x q)) = true := by simpa using hlt
                clear hstep hlt hbb
                generalize f q = u at *
                go_wp2_with fail
                go_quiet (fail)
                rw [HPut.out]
                have hckq : (wr.drewN nq).cell? ⟨W1.heap.size, k, none⟩ = some (.int .u32 ((b : Nat) : Int)) := hck
                have hfrq : (wr.drewN nq).frozen? ⟨W1.heap.size, k, none⟩ = false := hfree
                have RV2 := Lib.hid (show (wr.drewN nq).heap[w1.heap.size]? = some (.cells V 62 (0, 0)) from RV.out)
                have BV2 := Lib.hid (show (wr.drewN nq).heap[W1.heap.size]? = some (.cells (rowV (mF f k q) N) 45 (0, 0)) from BV.out)
                have BB2 := Lib.hid (below_drewN BB.out nq)
                have hglq : W1.heap.size < (wr.drewN nq).heap.size := hgl
                clear hck hfree hcd RV BV BB hgl hgl1
                generalize wr.drewN nq = wq at *
                go_wp2_with fail
                go_quiet ((go_at_call 26; first | exact qm (HC1.out _) | exact qm (HC2.out _)))
                go_wp2_with fail
                go_roundw
                case rel => exact ⟨q + 1, by omega, by go_num, (heap_setCell_other _ _ _ _ NE.out.1).trans RV2.out, by rw [← HS.out]; exact blk_set (w := wq.drewN _) BV2.out k _, Below.setCell (below_drewN BB2.out _) NE.out.2 _⟩
                case measure => simp [intOf]; omega
              · rw [if_neg hlt] at hstep
                have HS := Lib.hid (mF_same (N := N) (hstep.trans hbb.symm))
                have e3 : decide (((cnt b : Nat) : Int) < ((cnt (put x q) : Nat) : Int)) = false := by simp; omega
                have e4 : decide (cnt b < cnt (put x q)) = false := by simpa using hlt
                clear hstep hlt hbb
                generalize f q = u at *
                go_wp2_with fail
                go_quiet (fail)
                rw [HPut.out]
                have hckq : (wr.drewN nq).cell? ⟨W1.heap.size, k, none⟩ = some (.int .u32 ((b : Nat) : Int)) := hck
                have hfrq : (wr.drewN nq).frozen? ⟨W1.heap.size, k, none⟩ = false := hfree
                have RV2 := Lib.hid (show (wr.drewN nq).heap[w1.heap.size]? = some (.cells V 62 (0, 0)) from RV.out)
                have BV2 := Lib.hid (show (wr.drewN nq).heap[W1.heap.size]? = some (.cells (rowV (mF f k q) N) 45 (0, 0)) from BV.out)
                have BB2 := Lib.hid (below_drewN BB.out nq)
                have hglq : W1.heap.size < (wr.drewN nq).heap.size := hgl
                clear hck hfree hcd RV BV BB hgl hgl1
                generalize wr.drewN nq = wq at *
                go_wp2_with fail
                go_quiet ((go_at_call 26; first | exact qm (HC1.out _) | exact qm (HC2.out _)))
                go_wp2_with fail
                go_roundw
                case rel => exact ⟨q + 1, by omega, by go_num, RV2.out, by rw [HS.out]; exact BV2.out, below_drewN BB2.out _⟩
                case measure => simp [intOf]; omega
            · have HS := Lib.hid (mF_same (N := N) (hstep.trans (if_neg fun h => hd h.2)))
              have e1 : (bits .andNot .i64 (f q : Int) (k : Int) != 0) = true := by
                rw [i64_andNot_nat _ _ (by omega) (by omega), bne_iff_ne]
                omega
              clear hstep h0 hd
              generalize f q = u at *
              go_wp2_with fail
              go_roundw
              case rel => exact ⟨q + 1, by omega, by go_num, RV.out, by rw [HS.out]; exact BV.out, BB.out⟩
              case measure => simp [intOf]; omega
        · have hks : q = 32 := by omega
          subst hks
          have HN := Lib.hid (HNx.out k N (by omega))
          go_wp2_with fail
          go_roundw
          case rel => exact ⟨k + 1, by omega, by go_num, RV.out, by rw [← HN.out]; exact BV.out, BB.out⟩
          case measure => simp [intOf]; omega
    · have hks : k = N := by omega
      subst hks
      go_wp2_with fail
      go_ret
      exact ⟨W1.heap.size, rfl, BK.out, BW.out⟩
end Go.Proofs.Ytfokmgogbjifbaa

/-
  Decode: the walk. Condition: the code and the text can be read.
-/
import Derived.Test.YtjongjndoaojnaaDc3
namespace Go.Proofs.Ytjongjndoaojnaa
open Go.RowKit
set_option linter.unusedVariables false

theorem Try.infoBool : (Try.prog.info? 4).map (fun i => (i.zero, i.size, i.bytes)) = some (some (.bool false), 1, 1) := by kernel_rfl
theorem made_bools0 {w w1 : World} {n : Nat} (h : w1.ownsRow w.heap.size 4 1 (.slice (some ⟨w.heap.size, 0, none⟩) n n) n (madeCells (Value.bool false).cells (n * 1)).toList) (hg : w.grownBy w1 none) :
    Below w.heap.size w w1 ∧ w1.heap[w.heap.size]? = some (.cells (rowU (fun _ => false) n).toArray 4 (0, 0)) := by
  refine ⟨(Below.refl _ _).grown hg (Nat.le_refl _) (by simp), ?_⟩
  have hcells : (madeCells (Value.bool false).cells (n * 1)).toList = rowU (fun _ => false) n := by
    rw [Nat.mul_one]
    refine (toList_madeCells_one (.bool false) n).trans ?_
    refine List.ext_getElem? fun j => ?_
    by_cases h : j < n
    · simp [rowU, h]
    · simp [rowU, h]
  rw [← hcells]
  exact own_full h
theorem holdD {w : World} {k : Nat} {o o' : Obj} (h : w.heap[k]? = some o) : (w.alloc o').heap[k]? = some o := by
  rw [Below.heap_alloc _ _ _ ((Array.getElem?_eq_some_iff.1 h).1)]
  exact h
theorem fnd_nats (C : List ByteArray) (u : List UInt8) : ints (fnd C u) = nats (dc C u).reverse := by
  unfold fnd dcI ints nats
  simp
theorem fnd_length (C : List ByteArray) (u : List UInt8) : (fnd C u).length = (dc C u).reverse.length := by simp [fnd, dcI]
theorem dcI_nats (C : List ByteArray) (u : List UInt8) : ints (dcI C u) = nats (dc C u) := by
  unfold dcI ints nats
  simp
set_option maxRecDepth 4000 in
theorem Reverse_nil (A : Option Addr) (c : Nat) (w : World) : Calls Try.prog 64 #[.slice A 0 c] w fun e w' => e = .returned (.tuple #[]) ∧ w' = w := by
  go_enter Try.func64, Try.ntmps64
  go_wp2_with fail
  go_loopw [2, 3] (fun v u wr => v = .int .i64 0 ∧ u = .int .i64 (-1) ∧ wr = w) (fun _ _ _ => 0)
  case atStart => exact ⟨rfl, rfl, rfl⟩
  case round =>
    obtain ⟨rfl, rfl, rfl⟩ := hrel
    go_wp2_with fail
    refine bodyPost_end (results_none rfl _ _ _) rfl ⟨rfl, rfl⟩
set_option maxRecDepth 8000 in
set_option maxHeartbeats 4000000 in
theorem Decode_any (A : Option Addr) (c : Nat) (C : List ByteArray) (t : ByteArray) (w : World) (hr : Rd w w.heap.size A (txts C)) (hs : Sz C) (hl : C.length ≤ c) (hc : c ≤ 9223372036854775807) (ht : t.size ≤ 9223372036854775807) :
    Calls Try.prog 24 #[.slice A C.length c, .string t] w fun e w' => DecPost C t w e w' := by
  have WB := Lib.hid (show Below w.heap.size w ((w.alloc (.cells #[.slice A C.length c] 22)).alloc (.cells #[.string t] 9)) from ((Below.refl _ w).alloc (Nat.le_refl _) _).alloc (by simp) _)
  have HCK := Lib.hid (checkText_any A c C t ((w.alloc (.cells #[.slice A C.length c] 22)).alloc (.cells #[.string t] 9)) (hr.go (B0 := 0) WB.out) hs hl hc ht)
  have HR := Lib.hid hr
  have WC := Lib.hid (show ((w.alloc (.cells #[.slice A C.length c] 22)).alloc (.cells #[.string t] 9)).heap[w.heap.size]? = some (.cells #[.slice A C.length c] 22 (0, 0)) by
    rw [Below.heap_alloc _ _ _ (by simp)]
    exact heap_alloc_new w _)
  have WT := Lib.hid (show ((w.alloc (.cells #[.slice A C.length c] 22)).alloc (.cells #[.string t] 9)).heap[w.heap.size + 1]? = some (.cells #[.string t] 9 (0, 0)) by
    have := heap_alloc_new (w.alloc (.cells #[.slice A C.length c] 22)) (.cells #[.string t] 9)
    simpa using this)
  clear hr hs
  by_cases hz : txE C t = 0
  · obtain ⟨hv, ht60, _⟩ := txE_zero hz
    have HV := Lib.hid (vE_ok hv)
    have HE := Lib.hid hz
    have HC := Lib.hid (show ∀ s ∈ C, 1 ≤ s.size from fun s hs => (sgB_iff.1 (HV.out.sg s hs)).1)
    have HL := Lib.hid (show dcL C t = dcI C (bl t) from if_pos hz)
    have HB := Lib.hid (show dcB C t = decide (ways C (bl t) ≠ 0) by unfold dcB; simp [hz])
    obtain ⟨i0, hi, hz0, hz1, hz2⟩ := info_parts Try.infoBool
    have hw1 : IntKind.i64.wrap ((t.size : Int) + 1) = ((t.size + 1 : Nat) : Int) := by rw [IntKind.wrap_i64]; omega
    rw [hz] at HCK
    clear hz hv
    go_enter Try.func24, Try.ntmps24
    go_wp2_with fail
    refine HCK.out.mono ?_
    rintro e w1 ⟨rfl, hb⟩
    have B1 := Lib.hid hb
    have S1 := hb.size
    have c1 : w1.cell? ⟨w.heap.size + 1, 0, none⟩ = some (.string t) := (B1.out.cell (p := ⟨w.heap.size + 1, 0, none⟩) (by simp)).trans ((blk_cell WT.out).trans rfl)
    have c1u : (w1.alloc (.cells #[.slice none 0 0] 23)).cell? ⟨w.heap.size + 1, 0, none⟩ = some (.string t) := cell_up c1
    clear hb
    go_wp2_with ((at_make; refine wpList_make_full _ rfl (.tmp 19) (.tmp 19) 67 rfl (w1.alloc (.cells #[.slice none 0 0] 23)).heap.size 4 i0 (.bool false) 1 Try.underlying67 hi hz0 hz1 .i64 .i64 _ _ (t.size + 1) rfl rfl (by omega) (by omega) (by rw [hz2]; omega) (by simp only [maxLen]; omega) (Nat.le_refl _) ?_; intro w3 hown hgr; have MD := Lib.hid (made_bools0 hown hgr); clear hown hgr))
    have z1 : (w1.alloc (.cells #[.slice none 0 0] 23)).heap.size = w1.heap.size + 1 := by simp
    have z2 : ((w.alloc (.cells #[.slice A C.length c] 22)).alloc (.cells #[.string t] 9)).heap.size = w.heap.size + 2 := by simp
    have z3 : w1.heap.size + 1 < w3.heap.size := by have := (Array.getElem?_eq_some_iff.1 MD.out.2).1; omega
    rw [z2] at S1
    have m1 : ∀ k, k < w.heap.size + 2 → w3.heap[k]? = ((w.alloc (.cells #[.slice A C.length c] 22)).alloc (.cells #[.string t] 9)).heap[k]? := fun k hk => by
      rw [MD.out.1.block k (by omega), Below.heap_alloc _ _ _ (by omega), B1.out.block k (by omega)]
    have m2 : w3.heap[w1.heap.size]? = some (.cells #[.slice none 0 0] 23 (0, 0)) := by
      rw [MD.out.1.block _ (by omega)]
      exact heap_alloc_new w1 _
    have m3 := MD.out.2
    rw [z1] at m3
    have B3 := Lib.hid (show Below w.heap.size w w3 from WB.out.trans ((B1.out.mono (by omega)).trans (((Below.refl _ w1).alloc (by omega) _).trans (MD.out.1.mono (by omega)))))
    have AP := Lib.hid (show ApD w.heap.size w1.heap.size (w1.heap.size + 1) (w.heap.size + 1) w3.heap.size w.heap.size (w3.heap.size + 1) by constructor <;> omega)
    have ST := Lib.hid (show DcSt w.heap.size w1.heap.size (w1.heap.size + 1) (w.heap.size + 1) w3.heap.size w.heap.size (w3.heap.size + 1) C A c t ((w3.alloc (.cells #[.slice (some ⟨w1.heap.size + 1, 0, none⟩) (t.size + 1) (t.size + 1)] 67)).alloc (.cells #[findV (w.heap.size + 1) w3.heap.size w.heap.size (w3.heap.size + 1) w1.heap.size] 62)) [] (fun _ => false) none 0 by
      have hB4 : Below w.heap.size w ((w3.alloc (.cells #[.slice (some ⟨w1.heap.size + 1, 0, none⟩) (t.size + 1) (t.size + 1)] 67)).alloc (.cells #[findV (w.heap.size + 1) w3.heap.size w.heap.size (w3.heap.size + 1) w1.heap.size] 62)) := (B3.out.alloc (by omega) _).alloc (by simp; omega) _
      refine ⟨holdD (holdD ((m1 _ (by omega)).trans WT.out)), holdD (heap_alloc_new w3 _), holdD (holdD ((m1 _ (by omega)).trans WC.out)), ?_, holdD (holdD m2), holdD (holdD m3), ⟨rfl, .inl ⟨rfl, rfl⟩⟩, HR.out.below hB4 (Nat.le_refl _), hB4.size, by simp [Value.ownBlock], by simp [Value.ownBlock], by simp [Value.ownBlock], by simp [Value.ownBlock], by simp [Value.ownBlock], by simp [Value.ownBlock]⟩
      have := heap_alloc_new (w3.alloc (.cells #[.slice (some ⟨w1.heap.size + 1, 0, none⟩) (t.size + 1) (t.size + 1)] 67)) (.cells #[findV (w.heap.size + 1) w3.heap.size w.heap.size (w3.heap.size + 1) w1.heap.size] 62)
      simpa using this)
    have B4 := Lib.hid (show Below w.heap.size w ((w3.alloc (.cells #[.slice (some ⟨w1.heap.size + 1, 0, none⟩) (t.size + 1) (t.size + 1)] 67)).alloc (.cells #[findV (w.heap.size + 1) w3.heap.size w.heap.size (w3.heap.size + 1) w1.heap.size] 62)) from (B3.out.alloc (by omega) _).alloc (by simp; omega) _)
    have FA := find_any _ _ _ _ _ _ _ AP.out C A c t HV.out ht60 t.size 0 _ _ (by omega) (Nat.zero_le _) ST.out (fun p h => by cases h)
    rw [List.drop_zero] at FA
    refine FA.mono ?_
    clear FA
    rintro e w4 ⟨rfl, V', AE, cE, q1, q2, q3, q4⟩
    have Q1 := Lib.hid q1
    have Q4 := Lib.hid (B4.out.trans q4)
    have hbm : w.heap.size ≤ w1.heap.size := by omega
    clear c1 c1u m1 m2 m3 z1 z2 q1 q2 q4
    generalize w1.heap.size = bm at *
    generalize w3.heap.size = bv at *
    by_cases hw : ways C (bl t) = 0
    · obtain ⟨rfl, rfl⟩ := q3 hw
      have HN := Lib.hid (show dcI C (bl t) = [] by
        have h := fnd_none HC.out hw
        unfold fnd at h
        exact List.reverse_eq_nil_iff.1 h)
      have e5 : decide (ways C (bl t) ≠ 0) = false := by rw [hw]; rfl
      have HW := Lib.hid (show dcB C t = false by rw [HB.out, e5])
      rw [e5]
      clear e5 hw q3
      go_wp2_with fail
      go_ret3
      exact ⟨none, 0, by rw [HL.out, HN.out, HW.out, HE.out]; rfl, by rw [HL.out, HN.out]; exact Rd.nil_, by rw [HL.out, HN.out]; exact Nat.zero_le _, Q4.out⟩
    · have e5 : decide (ways C (bl t) ≠ 0) = true := decide_eq_true hw
      have HW := Lib.hid (show dcB C t = true by rw [HB.out, e5])
      rw [e5]
      have hn60 : (dc C (bl t)).reverse.length ≤ 60 := by
        rw [List.length_reverse]
        have := dc_len HC.out (bl t).length (bl t) (Nat.le_refl _)
        rw [bl_len] at this
        omega
      have HLL := Lib.hid (show (dcL C t).length = (dc C (bl t)).reverse.length by rw [HL.out]; simp [dcI])
      have OW := Lib.hid (show w4.ownsRow w.heap.size 3 1 (.slice AE (dc C (bl t)).reverse.length cE) (dc C (bl t)).reverse.length (nats (dc C (bl t)).reverse) by
        have h := Q1.out.hE
        rw [fnd_nats, fnd_length] at h
        exact h)
      have HM := Lib.hid (show w4.heap[bm]? = some (.cells #[.slice AE (dc C (bl t)).reverse.length cE] 23 (0, 0)) by
        have h := Q1.out.hm
        rw [fnd_length] at h
        exact h)
      have HO := Lib.hid (show (Value.slice AE (dc C (bl t)).reverse.length cE).ownBlock ≠ some bm by
        have h := Q1.out.o1
        rw [fnd_length] at h
        exact h)
      have HRV := Lib.hid (show (dc C (bl t)).reverse.reverse = dc C (bl t) from List.reverse_reverse _)
      have HDN := Lib.hid (dcI_nats C (bl t))
      have cm : w4.cell? ⟨bm, 0, none⟩ = some (.slice AE (dc C (bl t)).reverse.length cE) := (blk_cell HM.out).trans rfl
      clear e5 hw q3 Q1
      generalize dc C (bl t) = l0 at *
      generalize l0.reverse = l at *
      by_cases hl0 : l = []
      · subst hl0
        have HN := Lib.hid (Reverse_nil AE cE w4)
        have HL0 := Lib.hid (show dcL C t = [] from List.eq_nil_of_length_eq_zero HLL.out)
        go_wp2_with fail
        refine HN.out.mono ?_
        rintro e w5 ⟨rfl, rfl⟩
        go_wp2_with fail
        go_ret3
        exact ⟨AE, cE, by rw [HL0.out, HW.out, HE.out]; rfl, by rw [HL0.out]; exact Rd.of_own OW.out, by rw [HL0.out]; exact Nat.zero_le _, Q4.out⟩
      · obtain ⟨g, sp, rfl, hBg, hnc, hg⟩ := own_natsC OW.out (List.length_pos_iff.2 hl0)
        have hgm : g ≠ bm := fun e => HO.out (by rw [e]; rfl)
        have HN := Lib.hid (Reverse_any g cE l sp w4 hg hnc hn60)
        have HGL := Lib.hid (lt_of_block hg)
        clear hg
        go_wp2_with fail
        refine HN.out.mono ?_
        rintro e w5 ⟨rfl, h5, o5⟩
        have cm5 : w5.cell? ⟨bm, 0, none⟩ = some (.slice (some ⟨g, 0, none⟩) l.length cE) := by
          refine (blk_cell ((o5.2.2.2.2 bm (Ne.symm hgm)).trans HM.out)).trans rfl
        have H5 := Lib.hid h5
        have B5 := Lib.hid (Q4.out.trans (o5.below hBg))
        have HG5 := Lib.hid (show g < w5.heap.size by rw [o5.2.2.2.1]; exact HGL.out)
        clear h5 o5 cm
        go_wp2_with fail
        go_ret3
        refine ⟨some ⟨g, 0, none⟩, cE, by rw [HLL.out, HW.out, HE.out]; rfl, ?_, by rw [HLL.out]; exact hn60, B5.out⟩
        rw [HL.out, HDN.out, ← HRV.out]
        exact rd_natsC H5.out HG5.out
  · have e1 : (txE C t != 0) = true := by simpa using hz
    have HL := Lib.hid (show dcL C t = [] from if_neg hz)
    have HB := Lib.hid (show dcB C t = false by unfold dcB; simp [hz])
    clear hz
    go_enter Try.func24, Try.ntmps24
    go_wp2_with fail
    refine HCK.out.mono ?_
    rintro e w1 ⟨rfl, hb⟩
    have B1 := Lib.hid (WB.out.trans (hb.mono WB.out.size))
    clear hb
    go_wp2_with fail
    go_ret3
    exact ⟨none, 0, by rw [HL.out, HB.out]; rfl, by rw [HL.out]; exact Rd.nil_, by rw [HL.out]; exact Nat.zero_le _, B1.out⟩
end Go.Proofs.Ytjongjndoaojnaa

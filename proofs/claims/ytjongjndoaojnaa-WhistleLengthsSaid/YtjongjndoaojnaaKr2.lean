/-
  The sum of a code: the walks of Kraft of both sides. Condition: the code can be read.
-/
import Derived.Test.YtjongjndoaojnaaKr1
namespace Go.Proofs.Ytjongjndoaojnaa
open Go.RowKit
set_option linter.unusedVariables false

set_option maxRecDepth 4000 in
set_option maxHeartbeats 2000000 in
theorem Kraft_any (A : Option Addr) (c : Nat) (C : List ByteArray) (w : World) (hr0 : Rd w w.heap.size A (txts C)) (hs : Sz C) (hl : C.length ≤ c) (hc : c ≤ 9223372036854775807) :
    Calls Try.prog 33 #[.slice A C.length c] w fun e w' => KraftPost C w e w' := by
  obtain ⟨W, hW, hg, hs1, hb0⟩ := one_blk w #[.int .i64 0, .int .i64 0] 44
  have hr : Rd W W.heap.size A (txts C) := (hr0.below hb0 (Nat.le_refl _)).more hb0.size
  have HVA := Lib.hid (Validate_any A c C W hr hs hl hc)
  have HW := Lib.hid hW
  have HG := Lib.hid hg
  have HB0 := Lib.hid hb0
  have HS1 := Lib.hid hs1
  have HR := Lib.hid hr
  clear hr hr0 hs hW hg hb0 hs1
  by_cases hv : vE C = 0
  · have HVd := Lib.hid (vE_ok hv)
    have HK := Lib.hid (show kraft C = red 12 (fil (lensC C)) from if_pos hv)
    have HE := Lib.hid hv
    have hC12 := HVd.out.le
    rw [hv] at HVA
    clear hv
    go_enter Try.func33, Try.ntmps33
    go_wp2_with fail
    rw [HW.out]
    refine HVA.out.mono ?_
    rintro e w1 ⟨rfl, hb⟩
    have B1 := Lib.hid hb
    have R1 := Lib.hid ((HR.out.below hb (Nat.le_refl _)).more hb.size)
    have G1 := Lib.hid ((hb.block _ HS1.out).trans HG.out)
    clear hb
    go_wp2_with fail
    go_loopw [5, 16] (fun v i wr => ∃ (k : Nat) (A' : Option Addr) (c' : Nat), k ≤ C.length ∧ v = .slice A' k c' ∧ i = .int .i64 k ∧ wr.ownsRow w1.heap.size 3 1 (.slice A' k c') k (ints (lensC (C.take k))) ∧ Below w1.heap.size w1 wr) (fun _ i _ => C.length - (intOf i).toNat)
    case atStart => exact ⟨0, none, 0, by omega, rfl, rfl, ⟨rfl, .inl ⟨rfl, rfl⟩⟩, Below.refl _ _⟩
    case round =>
      obtain ⟨k, A', c', hk, rfl, rfl, h1, h2⟩ := hrel
      have OW := Lib.hid h1
      have B2 := Lib.hid h2
      clear h1 h2
      by_cases hlt : k < C.length
      · obtain ⟨b, o, s, hA, hd, hc0⟩ := (R1.out.below B2.out (Nat.le_refl _)).txt k hlt
        have HX := Lib.hid (lensC_next hd.out)
        have HAA := Lib.hid hA
        subst hA
        have b0 : (0 : Int) ≤ (k : Int) := by omega
        have b1 : (k : Int) < (C.length : Int) := by omega
        clear hd
        go_wp2_with ((with_reducible show wpList _ _ _ (⟨some 24, _, _, _, _, _⟩ :: _) _ _); refine app eInt rfl (.tmp 20) (.tmp 23) rfl rfl (OW.out.alloc _) (B2.out.alloc B2.out.size (.cells #[.int .i64 (s.size : Int)] 3)) (size_alloc' B2.out.size _) rfl (Rd.one wr (.int .i64 (s.size : Int)) 3 (Nat.lt_succ_self _)) (by simp) (ints_one [(s.size : Int)]) (k + 1) rfl (by omega) ?_; intro A2 c2 w3 o2 b2 _ _; have O2 := Lib.hid (show w3.ownsRow w1.heap.size 3 1 (.slice A2 (k + 1) c2) (k + 1) (ints (lensC (C.take (k + 1)))) by rw [HX.out]; exact o2); have B4 := Lib.hid b2; clear o2 b2)
        go_roundw
        case rel => exact ⟨k + 1, A2, c2, by omega, rfl, by go_num, O2.out, B4.out⟩
        case measure => simp [intOf]; omega
      · have hks : k = C.length := by omega
        subst hks
        have hO := OW.out
        rw [List.take_length] at hO
        have hLl : (lensC C).length = C.length := by unfold lensC; rw [List.length_map]
        have HF := fillOf_any A' c' (lensC C) wr (Rd.of_own hO) (lensC_ok HVd.out)
        rw [hLl, ← HK.out] at HF
        have HFF := Lib.hid HF
        clear hO hLl HF
        generalize hkk : kraft C = kk at *
        have HKK := Lib.hid hkk
        clear hkk
        go_wp2_with fail
        refine HFF.out.mono ?_
        rintro e w4 ⟨rfl, hb⟩
        have B4 := Lib.hid (B2.out.trans (hb.mono B2.out.size))
        have G4 := (B4.out.block w.heap.size (by have := B1.out.size; have := HS1.out; omega)).trans G1.out
        have d0 := (blk_cell (j := 0) G4).trans (show _ = some (.int .i64 0) from rfl)
        have g0 := blk_free G4 0
        have RB1 := blk_set G4 0 (.int .i64 (kk.1 : Int))
        have d1 := (blk_cell (j := 1) RB1).trans (show _ = some (.int .i64 0) from rfl)
        have g1 := blk_free RB1 1
        have RB2 := Lib.hid (blk_set RB1 1 (.int .i64 (kk.2 : Int)))
        have BZ := Lib.hid ((((HB0.out.trans (B1.out.mono HB0.out.size)).trans (B4.out.mono (Nat.le_trans HB0.out.size B1.out.size))).grown ((grown_setC w4 w.heap.size 0 (.int .i64 (kk.1 : Int))).trans (grown_setC _ w.heap.size 1 (.int .i64 (kk.2 : Int)))) (by have := HB0.out.size; have := B1.out.size; have := B4.out.size; omega) fun q hq => by injection hq with hq; omega))
        clear hb G4 RB1
        go_wp2_with fail
        (try simp only [Exit.inBlock, Exit.then])
        refine bodyPost_ret (v := .tuple #[.agg #[.int .i64 (kk.1 : Int), .int .i64 (kk.2 : Int)], .int .i64 0]) (results_row_tmp (p := 2) (u := 3) rfl _ _ w.heap.size 44 _ _ _ rfl RB2.out Try.underlying44 rfl Try.sizeRat) rfl ⟨?_, BZ.out⟩
        rw [HKK.out, HE.out]
  · have e1 : (vE C != 0) = true := by simpa using hv
    have HK := Lib.hid (show kraft C = (0, 0) from if_neg hv)
    clear hv
    go_enter Try.func33, Try.ntmps33
    go_wp2_with fail
    rw [HW.out]
    refine HVA.out.mono ?_
    rintro e w1 ⟨rfl, hb⟩
    have B1 := Lib.hid hb
    have G4 := (hb.block _ HS1.out).trans HG.out
    have d0 := (blk_cell (j := 0) G4).trans (show _ = some (.int .i64 0) from rfl)
    have g0 := blk_free G4 0
    have RB1 := blk_set G4 0 (.int .i64 0)
    have d1 := (blk_cell (j := 1) RB1).trans (show _ = some (.int .i64 0) from rfl)
    have g1 := blk_free RB1 1
    have RB2 := Lib.hid (blk_set RB1 1 (.int .i64 0))
    have BZ := Lib.hid (((HB0.out.trans (B1.out.mono HB0.out.size)).grown ((grown_setC w1 w.heap.size 0 (.int .i64 0)).trans (grown_setC _ w.heap.size 1 (.int .i64 0))) (by have := HB0.out.size; have := B1.out.size; omega) fun q hq => by injection hq with hq; omega))
    clear hb G4 RB1
    go_wp2_with fail
    (try simp only [Exit.inBlock, Exit.then])
    refine bodyPost_ret (v := .tuple #[.agg #[.int .i64 0, .int .i64 0], .int .i64 (vE C)]) (results_row_tmp (p := 2) (u := 3) rfl _ _ w.heap.size 44 _ _ _ rfl RB2.out Try.underlying44 rfl Try.sizeRat) rfl ⟨?_, BZ.out⟩
    rw [HK.out]; rfl

set_option maxRecDepth 4000 in
set_option maxHeartbeats 2000000 in
theorem rKraft_any (A : Option Addr) (c : Nat) (C : List ByteArray) (w : World) (hr0 : Rd w w.heap.size A (txts C)) (hs : Sz C) (hl : C.length ≤ c) (hc : c ≤ 9223372036854775807) :
    Calls Try.prog 34 #[.slice A C.length c] w fun e w' => KraftPost C w e w' := by
  obtain ⟨W, hW, hg, hs1, hb0⟩ := one_blk w #[.int .i64 0, .int .i64 0] 44
  have hr : Rd W W.heap.size A (txts C) := (hr0.below hb0 (Nat.le_refl _)).more hb0.size
  have HVA := Lib.hid (rValidate_any A c C W hr hs (Nat.le_trans hl hc))
  have HW := Lib.hid hW
  have HG := Lib.hid hg
  have HB0 := Lib.hid hb0
  have HS1 := Lib.hid hs1
  have HR := Lib.hid hr
  clear hr hr0 hs hW hg hb0 hs1
  by_cases hv : vE C = 0
  · have HVd := Lib.hid (vE_ok hv)
    have HK := Lib.hid (show kraft C = red 12 (fil (lensC C)) from if_pos hv)
    have HE := Lib.hid hv
    have hC12 := HVd.out.le
    rw [hv] at HVA
    clear hv
    go_enter Try.func34, Try.ntmps34
    go_wp2_with fail
    rw [HW.out]
    refine HVA.out.mono ?_
    rintro e w1 ⟨rfl, m, hm⟩
    have hb : Below W.heap.size W w1 := by rw [hm]; exact bdN (Below.refl _ _) m
    clear hm
    have B1 := Lib.hid hb
    have R1 := Lib.hid ((HR.out.below hb (Nat.le_refl _)).more hb.size)
    have G1 := Lib.hid ((hb.block _ HS1.out).trans HG.out)
    clear hb
    go_wp2_with fail
    go_loopw [5, 6] (fun v i wr => ∃ (k : Nat) (A' : Option Addr) (c' : Nat), k ≤ C.length ∧ v = .slice A' k c' ∧ i = .int .i64 k ∧ wr.ownsRow w1.heap.size 3 1 (.slice A' k c') k (ints (lensC (C.take k))) ∧ Below w1.heap.size w1 wr) (fun _ i _ => C.length - (intOf i).toNat)
    case atStart => exact ⟨0, none, 0, by omega, rfl, rfl, ⟨rfl, .inl ⟨rfl, rfl⟩⟩, Below.refl _ _⟩
    case round =>
      obtain ⟨k, A', c', hk, rfl, rfl, h1, h2⟩ := hrel
      have OW := Lib.hid h1
      have B2 := Lib.hid h2
      clear h1 h2
      by_cases hlt : k < C.length
      · obtain ⟨b, o, s, hA, hd, hc0⟩ := (R1.out.below B2.out (Nat.le_refl _)).txt k hlt
        have HX := Lib.hid (lensC_next hd.out)
        have HAA := Lib.hid hA
        subst hA
        have b0 : (0 : Int) ≤ (k : Int) := by omega
        have b1 : (k : Int) < (C.length : Int) := by omega
        clear hd
        go_wp2_with ((with_reducible show wpList _ _ _ (⟨some 26, _, _, _, _, _⟩ :: _) _ _); refine app eInt rfl (.tmp 19) (.tmp 25) rfl rfl (OW.out.alloc _) (B2.out.alloc B2.out.size (.cells #[.int .i64 (s.size : Int)] 3)) (size_alloc' B2.out.size _) rfl (Rd.one wr (.int .i64 (s.size : Int)) 3 (Nat.lt_succ_self _)) (by simp) (ints_one [(s.size : Int)]) (k + 1) rfl (by omega) ?_; intro A2 c2 w3 o2 b2 _ _; have O2 := Lib.hid (show w3.ownsRow w1.heap.size 3 1 (.slice A2 (k + 1) c2) (k + 1) (ints (lensC (C.take (k + 1)))) by rw [HX.out]; exact o2); have B4 := Lib.hid b2; clear o2 b2)
        go_roundw
        case rel => exact ⟨k + 1, A2, c2, by omega, rfl, by go_num, O2.out, B4.out⟩
        case measure => simp [intOf]; omega
      · have hks : k = C.length := by omega
        subst hks
        have hO := OW.out
        rw [List.take_length] at hO
        have hLl : (lensC C).length = C.length := by unfold lensC; rw [List.length_map]
        have HF := halves_any A' c' (lensC C) wr (Rd.of_own hO) (lensC_ok HVd.out)
        rw [hLl, ← HK.out] at HF
        have HFF := Lib.hid HF
        clear hO hLl HF
        generalize hkk : kraft C = kk at *
        have HKK := Lib.hid hkk
        clear hkk
        go_wp2_with fail
        refine HFF.out.mono ?_
        rintro e w4 ⟨rfl, hb⟩
        have B4 := Lib.hid (B2.out.trans (hb.mono B2.out.size))
        have G4 := (B4.out.block w.heap.size (by have := B1.out.size; have := HS1.out; omega)).trans G1.out
        have d0 := (blk_cell (j := 0) G4).trans (show _ = some (.int .i64 0) from rfl)
        have g0 := blk_free G4 0
        have RB1 := blk_set G4 0 (.int .i64 (kk.1 : Int))
        have d1 := (blk_cell (j := 1) RB1).trans (show _ = some (.int .i64 0) from rfl)
        have g1 := blk_free RB1 1
        have RB2 := Lib.hid (blk_set RB1 1 (.int .i64 (kk.2 : Int)))
        have BZ := Lib.hid ((((HB0.out.trans (B1.out.mono HB0.out.size)).trans (B4.out.mono (Nat.le_trans HB0.out.size B1.out.size))).grown ((grown_setC w4 w.heap.size 0 (.int .i64 (kk.1 : Int))).trans (grown_setC _ w.heap.size 1 (.int .i64 (kk.2 : Int)))) (by have := HB0.out.size; have := B1.out.size; have := B4.out.size; omega) fun q hq => by injection hq with hq; omega))
        clear hb G4 RB1
        go_wp2_with fail
        (try simp only [Exit.inBlock, Exit.then])
        refine bodyPost_ret (v := .tuple #[.agg #[.int .i64 (kk.1 : Int), .int .i64 (kk.2 : Int)], .int .i64 0]) (results_row_tmp (p := 2) (u := 3) rfl _ _ w.heap.size 44 _ _ _ rfl RB2.out Try.underlying44 rfl Try.sizeRat) rfl ⟨?_, BZ.out⟩
        rw [HKK.out, HE.out]
  · have e1 : (vE C != 0) = true := by simpa using hv
    have HK := Lib.hid (show kraft C = (0, 0) from if_neg hv)
    clear hv
    go_enter Try.func34, Try.ntmps34
    go_wp2_with fail
    rw [HW.out]
    refine HVA.out.mono ?_
    rintro e w1 ⟨rfl, m, hm⟩
    have hb : Below W.heap.size W w1 := by rw [hm]; exact bdN (Below.refl _ _) m
    clear hm
    have B1 := Lib.hid hb
    have G4 := (hb.block _ HS1.out).trans HG.out
    have d0 := (blk_cell (j := 0) G4).trans (show _ = some (.int .i64 0) from rfl)
    have g0 := blk_free G4 0
    have RB1 := blk_set G4 0 (.int .i64 0)
    have d1 := (blk_cell (j := 1) RB1).trans (show _ = some (.int .i64 0) from rfl)
    have g1 := blk_free RB1 1
    have RB2 := Lib.hid (blk_set RB1 1 (.int .i64 0))
    have BZ := Lib.hid (((HB0.out.trans (B1.out.mono HB0.out.size)).grown ((grown_setC w1 w.heap.size 0 (.int .i64 0)).trans (grown_setC _ w.heap.size 1 (.int .i64 0))) (by have := HB0.out.size; have := B1.out.size; omega) fun q hq => by injection hq with hq; omega))
    clear hb G4 RB1
    go_wp2_with fail
    (try simp only [Exit.inBlock, Exit.then])
    refine bodyPost_ret (v := .tuple #[.agg #[.int .i64 0, .int .i64 0], .int .i64 (vE C)]) (results_row_tmp (p := 2) (u := 3) rfl _ _ w.heap.size 44 _ _ _ rfl RB2.out Try.underlying44 rfl Try.sizeRat) rfl ⟨?_, BZ.out⟩
    rw [HK.out]; rfl
end Go.Proofs.Ytjongjndoaojnaa

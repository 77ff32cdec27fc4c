/-
  The chance of a recapture: the walk of the method chance. Condition: numbers of birds, marked and caught not above birds.
-/
import Derived.Test.YtegehfcnclpdeabDoorCb6
import Derived.Deep.RegionHeld3
namespace Go.Proofs.YtegehfcnclpdeabDoor
open Go.RowKit
set_option linter.unusedVariables false

theorem box_rr (w : World) (b m c a : Int) : ∃ W, (w.alloc (.cells (rc b m c a) 47)).alloc (.cells #[.int .i64 0, .int .i64 0] 31) = W ∧
    (W.cell? ⟨w.heap.size, 0, none⟩ = some (.int .i64 b) ∧ W.cell? ⟨w.heap.size, 1, none⟩ = some (.int .i64 m) ∧ W.cell? ⟨w.heap.size, 2, none⟩ = some (.int .i64 c) ∧ W.cell? ⟨w.heap.size, 3, none⟩ = some (.int .i64 a)) ∧
    W.heap[w.heap.size + 1]? = some (.cells #[.int .i64 0, .int .i64 0] 31 (0, 0)) ∧ W.heap.size = w.heap.size + 2 ∧ Below w.heap.size w W := by
  obtain ⟨c0, c1, c2, c3, hb⟩ := box_rc w b m c a 47
  have hs : (w.alloc (.cells (rc b m c a) 47)).heap.size = w.heap.size + 1 := by simp
  refine ⟨_, rfl, ⟨cell_up c0, cell_up c1, cell_up c2, cell_up c3⟩, ?_, by simp, hb.alloc hb.size _⟩
  rw [← hs]
  exact heap_alloc_new _ _
/-- The chance. -/
def chN (b m c a : Nat) : Nat × Nat := fr (wN b m c a) (ch b c)
set_option maxRecDepth 4000 in
set_option maxHeartbeats 4000000 in
theorem chance_any (b m c a : Nat) (hb : b ≤ 60) (hm : m ≤ 60) (hc : c ≤ 60) (ha : a ≤ 60) (hcb : c ≤ b) (w : World) :
    Calls Tryd.prog 32 #[.agg (rc b m c a)] w fun e w' => e = .returned (ratV (chN b m c a)) ∧ Below w.heap.size w w' := by
  obtain ⟨W, hW, hS, hg, hz, hB⟩ := box_rr w b m c a
  have HW := Lib.hid hW
  have HWy := Lib.hid (fun w => ways_any b m c a hb hm hc ha w)
  have HCh := Lib.hid (fun w => choices_any b m c a hb w)
  have l1 := wN_le (b := b) (m := m) (c := c) (a := a) hb
  have l2 := ch_small hb c
  have HF := Lib.hid (fun w => fraction_any (wN b m c a) (ch b c) (by omega) (by omega) (ch_pos hcb) w)
  have HE := Lib.hid (show chN b m c a = fr (wN b m c a) (ch b c) from rfl)
  generalize fr (wN b m c a) (ch b c) = q at *
  obtain ⟨q1, q2⟩ := q
  generalize wN b m c a = x at *
  generalize ch b c = y at *
  have HK := Lib.hid (fun (w5 : World) (h : Below W.heap.size W w5) => show w5.cell? ⟨w.heap.size, 0, none⟩ = some (.int .i64 (b : Int)) ∧ w5.cell? ⟨w.heap.size, 1, none⟩ = some (.int .i64 (m : Int)) ∧ w5.cell? ⟨w.heap.size, 2, none⟩ = some (.int .i64 (c : Int)) ∧ w5.cell? ⟨w.heap.size, 3, none⟩ = some (.int .i64 (a : Int)) from
    ⟨cell_keep hS.1 h (by omega), cell_keep hS.2.1 h (by omega), cell_keep hS.2.2.1 h (by omega), cell_keep hS.2.2.2 h (by omega)⟩)
  have HK2 := Lib.hid (fun (w5 : World) (h : Below W.heap.size W w5) => show let w6 := (w5.setCell ⟨w.heap.size + 1, 0, none⟩ (.int .i64 (q1 : Int))).setCell ⟨w.heap.size + 1, 1, none⟩ (.int .i64 (q2 : Int)); w6.cell? ⟨w.heap.size, 0, none⟩ = some (.int .i64 (b : Int)) ∧ w6.cell? ⟨w.heap.size, 1, none⟩ = some (.int .i64 (m : Int)) ∧ w6.cell? ⟨w.heap.size, 2, none⟩ = some (.int .i64 (c : Int)) ∧ w6.cell? ⟨w.heap.size, 3, none⟩ = some (.int .i64 (a : Int)) from
    have k := put2_below (B := w.heap.size + 1) (w := w5) (W := w5) (g := w.heap.size + 1) (.int .i64 (q1 : Int)) (.int .i64 (q2 : Int)) (Below.refl _ _) (Nat.le_refl _) (by have := h.size; omega)
    have t := HK.out w5 h
    ⟨cell_keep t.1 k (Nat.lt_succ_self _), cell_keep t.2.1 k (Nat.lt_succ_self _), cell_keep t.2.2.1 k (Nat.lt_succ_self _), cell_keep t.2.2.2 k (Nat.lt_succ_self _)⟩)
  have HS0 := Lib.hid (HK.out W.drew ((Below.refl _ W).drew))
  have BD := Lib.hid ((Below.refl W.heap.size W).drew)
  have HP := Lib.hid (fun (w5 : World) (h : Below W.heap.size W w5) => put2 ((h.block (w.heap.size + 1) (by omega)).trans hg) (.int .i64 (q1 : Int)) (.int .i64 (q2 : Int)))
  have HZ := Lib.hid (fun (w5 : World) (h : Below W.heap.size W w5) => put2_below (W := w5) (g := w.heap.size + 1) (.int .i64 (q1 : Int)) (.int .i64 (q2 : Int)) (hB.trans (h.mono hB.size)) (by omega) (by have := h.size; omega))
  clear hW hS hg hz l1 l2 hb hm hc ha hcb hB
  unfold ratV at HF
  go_enter Tryd.func32, Tryd.ntmps32
  go_wp2_with fail
  rw [HW.out]
  go_region_held3 (fun w' => w'.cell? ⟨w.heap.size, 0, none⟩ = some (.int .i64 (b : Int)) ∧ w'.cell? ⟨w.heap.size, 1, none⟩ = some (.int .i64 (m : Int)) ∧ w'.cell? ⟨w.heap.size, 2, none⟩ = some (.int .i64 (c : Int)) ∧ w'.cell? ⟨w.heap.size, 3, none⟩ = some (.int .i64 (a : Int)))
    (first | exact HS0.out | exact SK5.out | exact SK6.out | exact SK7.out | exact SK8.out)
    ((first
      | (go_at_call 18; first
          | (refine (HWy.out W.drew).mono ?_; rintro e w5 ⟨rfl, hb⟩; have B5 := Lib.hid (BD.out.trans (hb.mono BD.out.size)); have SK5 := Lib.hid (HK.out w5 B5.out); clear hb)
          | (refine (HWy.out w5).mono ?_; rintro e w6 ⟨rfl, hb⟩; have B6 := Lib.hid (B5.out.trans (hb.mono B5.out.size)); have SK6 := Lib.hid (HK.out w6 B6.out); clear hb))
      | (go_at_call 36; first
          | (refine (HCh.out W.drew).mono ?_; rintro e w5 ⟨rfl, hb⟩; have B5 := Lib.hid (BD.out.trans (hb.mono BD.out.size)); have SK5 := Lib.hid (HK.out w5 B5.out); clear hb)
          | (refine (HCh.out w5).mono ?_; rintro e w6 ⟨rfl, hb⟩; have B6 := Lib.hid (B5.out.trans (hb.mono B5.out.size)); have SK6 := Lib.hid (HK.out w6 B6.out); clear hb))
      | (go_at_call 19; refine (HF.out w6).mono ?_; rintro e w7 ⟨rfl, hb⟩; have B7 := Lib.hid (B6.out.trans (hb.mono B6.out.size)); have SK7 := Lib.hid (HK.out w7 B7.out); have SK8 := Lib.hid (HK2.out w7 B7.out); obtain ⟨d0, f0, d1, f1, HR⟩ := HP.out w7 B7.out; clear hb)))
  have BZ := Lib.hid (HZ.out w7 B7.out)
  have HRR := Lib.hid HR.out
  go_wp2_with fail
  (try simp only [Exit.inBlock, Exit.then])
  refine bodyPost_ret (v := .agg #[.int .i64 (q1 : Int), .int .i64 (q2 : Int)]) (results_cell_row rfl _ _ (w.heap.size + 1) 31 _ _ _ rfl HRR.out Tryd.underlying31 rfl sizeRat) rfl ⟨?_, BZ.out⟩
  rw [HE.out]; rfl
end Go.Proofs.YtegehfcnclpdeabDoor

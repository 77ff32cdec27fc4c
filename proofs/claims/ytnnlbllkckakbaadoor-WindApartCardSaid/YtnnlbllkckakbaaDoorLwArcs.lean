/-
  The walk of the law WindArcs: it returns true. Condition: 'Tabs'.
-/
import Derived.Test.YtnnlbllkckakbaaDoorWi9
import Derived.Test.YtnnlbllkckakbaaDoorWi3
import Derived.Lib.QuietBelow
namespace Go.Proofs.YtnnlbllkckakbaaDoor
open Go.RowKit
set_option linter.unusedVariables false

theorem cell_set_far {w : World} {a p : Addr} {v : Value} (h : p.block ≠ a.block) : (w.setCell a v).cell? p = w.cell? p := by
  unfold World.cell?
  rw [heap_setCell_other _ _ _ _ h]
theorem Rd.fresh_set {w w0 : World} {B : Nat} {A : Option Addr} {xs : List Value} (h : Rd w B A xs) (hf : Fresh w0 A) {a : Addr} {v : Value} (ha : a.block < w0.heap.size) : Rd (w.setCell a v) B A xs := by
  rcases h with h0 | ⟨b, o, hA, hb, hc⟩
  · exact .inl h0
  · have := hf _ hA
    exact .inr ⟨b, o, hA, hb, fun i u hu => (cell_set_far (by simp only at this ⊢; omega)).trans (hc i u hu)⟩
theorem set_same {w : World} {p : Addr} {u v : Value} (h : w.cell? p = some u) : (w.setCell p v).cell? p = some v := World.cell?_setCell_same _ _ _ h
theorem set_next {w : World} {b : Nat} (i : Nat) (v : Value) : (w.setCell ⟨b, 0, none⟩ v).cell? ⟨b, i + 1, none⟩ = w.cell? ⟨b, i + 1, none⟩ := World.cell?_setCell_other _ _ _ _ (fun e => by injection e with _ e2; omega)
set_option maxHeartbeats 1600000 in
set_option maxRecDepth 4000 in
theorem WindArcs_walk (a : Pt) (w : World) (ht : Tabs w) :
    Calls Tryd.prog 3 #[a.v] w fun e w' => e = .returned (.bool true) ∧ Below w.heap.size w w' := by
  have HT := Lib.hid ht
  clear ht
  have C1 := Lib.hid (fun w => Points_any a w)
  have C2 := Lib.hid (fun w => rPoints_any a w)
  have C3 := Lib.hid (fun w => ValidateArc_any a w)
  have C4 := Lib.hid (fun w => rValidateArc_any a w)
  obtain ⟨W, hW, h0, h1, hs, hb0⟩ := one_pt w (.int .i64 a.x) (.int .i64 a.y) 23
  have hFZ := Lib.hid (fun (w' : World) (h : Below W.heap.size W w') => (h.frozen (p := ⟨w.heap.size, 0, none⟩) hs).trans (show W.frozen? ⟨w.heap.size, 0, none⟩ = false by rw [← hW]; exact blk_free (heap_alloc_new w _) 0))
  have F := Lib.hid (And.intro h0 (And.intro h1 hs))
  have B0 := Lib.hid hb0
  clear hb0 hs
  by_cases hv : arcE a = 0
  · have hN := arcN_lt a
    have hA := arcs_arc (arcE_zero hv)
    have C5 := Lib.hid (fun w => Arcs_any (arcN a : Nat) w)
    have e1 : arcV a = (arcN a : Nat) := if_pos hv
    rw [show arcsV (arcN a : Nat) = [normA a] by unfold arcsV; rw [if_pos (setB_iff.2 ⟨by omega, by omega⟩), Int.toNat_natCast, hA], setE_zero.2 (setB_iff.2 ⟨by omega, by omega⟩)] at C5
    rw [hv, e1] at C1 C2
    rw [hv] at C3 C4
    clear hA e1 hv hN
    generalize arcN a = N at *
    obtain ⟨x, y⟩ := a
    unfold Pt.v at *
    simp only at C1 C2 C3 C4 hW h0 h1 F ⊢
    go_enter Tryd.func3, Tryd.ntmps3
    go_wp2_with fail
    clear hW
    go_wp2_with fail
    refine (C1.out W).mono ?_
    rintro e w1 ⟨rfl, hb⟩
    have B1 := Lib.hid hb
    have K1 := Lib.hid (pt_keep F.out hb)
    have k1 := K1.out.1
    have k2 := K1.out.2
    clear hb h0 h1
    have L1 := Lib.hid (World.block_lt_of_cell? w1 _ k1)
    go_wp2_with fail
    refine (C2.out w1).mono ?_
    rintro e w2 ⟨rfl, hb⟩
    have B2 := Lib.hid (B1.out.trans (hb.mono B1.out.size))
    have K2 := Lib.hid (pt_keep (And.intro K1.out.1 (And.intro K1.out.2 L1.out)) hb)
    have k3 := K2.out.1
    have k4 := K2.out.2
    clear hb k1 k2
    have L2 := Lib.hid (World.block_lt_of_cell? w2 _ k3)
    have g0 := fun d os => cell_regrown k3 d os
    have g1 := fun d os => cell_regrown k4 d os
    clear k3 k4
    go_wp2_with fail
    refine wp_region_quiet_below (by kernel_rfl) (by kernel_rfl) ?_
    repeat (go_big_quiet_step (first | (with_reducible exact Calls.regrown_of (C3.out _)) | (with_reducible exact Calls.regrown_of (C4.out _))))
    refine wpQuiet_nil ?_
    intro _ hw'
    obtain ⟨⟨dq, osq⟩, hw''⟩ := hw'
    subst hw''
    generalize hW3 : «Sort».grow _ _ = w3
    have BR : Below w2.heap.size w2 w3 := by rw [← hW3]; exact below_regrown w2 dq osq
    have B3 := Lib.hid (B2.out.trans (BR.mono B2.out.size))
    have K3 := Lib.hid (pt_keep (And.intro K2.out.1 (And.intro K2.out.2 L2.out)) BR)
    have k5 := K3.out.1
    have k6 := K3.out.2
    have L3 := Lib.hid (World.block_lt_of_cell? w3 _ k5)
    clear BR hW3 g0 g1 C1 C2 C3 C4
    clear k5 k6
    go_wp2_with fail
    refine (C5.out w3).mono ?_
    rintro e w4 ⟨A4, c4, rfl, hc4, hf4, hr4, hb⟩
    have F4 := Lib.hid hf4
    have R4 := Lib.hid hr4
    have B4 := Lib.hid (B3.out.trans (hb.mono B3.out.size))
    have K4 := Lib.hid (pt_keep (And.intro K3.out.1 (And.intro K3.out.2 L3.out)) hb)
    have k7 := K4.out.1
    have k8 := K4.out.2
    have L4 := Lib.hid (World.block_lt_of_cell? w4 _ k7)
    clear hb hf4 hr4
    by_cases hy : y = 32
    · have hn : normA ⟨x, y⟩ = ⟨0, 32⟩ := if_pos hy
      rw [hn] at R4 ⊢
      subst hy
      obtain ⟨w5, hw5⟩ : ∃ w5, w4.setCell ⟨w.heap.size, 0, none⟩ (.int .i64 0) = w5 := ⟨_, rfl⟩
      have R5 := R4.out.fresh_set F4.out (a := ⟨w.heap.size, 0, none⟩) (v := .int .i64 0) L3.out
      have B5 := Below.setCell (p := ⟨w.heap.size, 0, none⟩) (B0.out.trans (B4.out.mono B0.out.size)) (Nat.le_refl _) (.int .i64 0)
      have sz : (w4.setCell ⟨w.heap.size, 0, none⟩ (.int .i64 0)).heap.size = w4.heap.size := by simp
      have c0 : (w4.setCell ⟨w.heap.size, 0, none⟩ (.int .i64 0)).cell? ⟨w.heap.size, 0, none⟩ = some (.int .i64 0) := set_same k7
      have c1 : (w4.setCell ⟨w.heap.size, 0, none⟩ (.int .i64 0)).cell? ⟨w.heap.size, 1, none⟩ = some (.int .i64 32) := (set_next _ _).trans k8
      rw [hw5] at R5 B5 sz c0 c1
      have hfz : w4.frozen? ⟨w.heap.size, 0, none⟩ = false := hFZ.out _ B4.out
      have R6 := Lib.hid ((R5.more (Nat.le_of_eq sz.symm)).alloc_up (.cells #[.int .i64 0, .int .i64 32] 23))
      have B6 := Lib.hid (B5.alloc B5.size (.cells #[.int .i64 0, .int .i64 32] 23))
      clear R5 B5 sz
      go_wp2_with fail
      clear hw5 c0 c1 hfz k7 k8
      refine (SameArcs_same A4 _ c4 _ [⟨0, 32⟩] 1 1 _ rfl rfl R6.out (Rd.two _ _ _ _) (by decide)).mono ?_
      rintro e w7 ⟨rfl, m, rfl⟩
      have B7 := Lib.hid (below_drewN B6.out m)
      clear F4 R4 R6
      go_wp2_with fail
      refine (known_ok _ (HT.out.below' B7.out)).mono ?_
      rintro e w8 ⟨rfl, hb⟩
      go_wp2_with fail
      go_ret
      exact ⟨rfl, B7.out.trans (hb.mono B7.out.size)⟩
    · have hn : normA ⟨x, y⟩ = ⟨x, y⟩ := if_neg hy
      have hyb : (y == 32) = false := by simpa using hy
      rw [hn] at R4 ⊢
      have R6 := Lib.hid (R4.out.alloc_up (.cells #[.int .i64 x, .int .i64 y] 23))
      have B6 := Lib.hid ((B0.out.trans (B4.out.mono B0.out.size)).alloc (Nat.le_trans B0.out.size B4.out.size) (.cells #[.int .i64 x, .int .i64 y] 23))
      clear hn hy
      go_wp2_with fail
      clear k7 k8
      refine (SameArcs_same A4 _ c4 _ [⟨x, y⟩] 1 1 _ rfl rfl R6.out (Rd.two _ _ _ _) (by simp)).mono ?_
      rintro e w7 ⟨rfl, m, rfl⟩
      have B7 := Lib.hid (below_drewN B6.out m)
      clear F4 R4 R6
      go_wp2_with fail
      refine (known_ok _ (HT.out.below' B7.out)).mono ?_
      rintro e w8 ⟨rfl, hb⟩
      go_wp2_with fail
      go_ret
      exact ⟨rfl, B7.out.trans (hb.mono B7.out.size)⟩
  · have C5 := Lib.hid (fun w => Arcs_any 0 w)
    have e1 : arcV a = 0 := if_neg hv
    rw [e1] at C1 C2
    generalize arcE a = E at *
    have hE : (E == 0) = false := by simpa using hv
    have hE' : (E != 0) = true := by simpa using hv
    clear e1 hv
    obtain ⟨x, y⟩ := a
    unfold Pt.v at *
    simp only at C1 C2 C3 C4 hW h0 h1 F ⊢
    go_enter Tryd.func3, Tryd.ntmps3
    go_wp2_with fail
    clear hW
    go_wp2_with fail
    refine (C1.out W).mono ?_
    rintro e w1 ⟨rfl, hb⟩
    have B1 := Lib.hid hb
    have K1 := Lib.hid (pt_keep F.out hb)
    have k1 := K1.out.1
    have k2 := K1.out.2
    clear hb h0 h1
    have L1 := Lib.hid (World.block_lt_of_cell? w1 _ k1)
    go_wp2_with fail
    refine (C2.out w1).mono ?_
    rintro e w2 ⟨rfl, hb⟩
    have B2 := Lib.hid (B1.out.trans (hb.mono B1.out.size))
    have K2 := Lib.hid (pt_keep (And.intro K1.out.1 (And.intro K1.out.2 L1.out)) hb)
    have k3 := K2.out.1
    have k4 := K2.out.2
    clear hb k1 k2
    have g0 := fun d os => cell_regrown k3 d os
    have g1 := fun d os => cell_regrown k4 d os
    clear k3 k4
    go_wp2_with fail
    refine wp_region_quiet_below (by kernel_rfl) (by kernel_rfl) ?_
    repeat (go_big_quiet_step (first | (with_reducible exact Calls.regrown_of (C3.out _)) | (with_reducible exact Calls.regrown_of (C4.out _))))
    refine wpQuiet_nil ?_
    intro _ hw'
    obtain ⟨⟨dq, osq⟩, hw''⟩ := hw'
    subst hw''
    generalize hW3 : «Sort».grow _ _ = w3
    have BR : Below w2.heap.size w2 w3 := by rw [← hW3]; exact below_regrown w2 dq osq
    have B3 := Lib.hid (B2.out.trans (BR.mono B2.out.size))
    clear BR hW3 g0 g1 C1 C2 C3 C4
    go_wp2_with fail
    refine (C5.out w3).mono ?_
    rintro e w4 ⟨A4, c4, rfl, hc4, hf4, hr4, hb⟩
    have B4 := Lib.hid (B0.out.trans ((B3.out.trans (hb.mono B3.out.size)).mono B0.out.size))
    clear hb hf4 hr4 hc4
    generalize arcsV 0 = L at *
    generalize setE 0 = G at *
    go_wp2_with fail
    refine (known_ok _ (HT.out.below' B4.out)).mono ?_
    rintro e w8 ⟨rfl, hb⟩
    go_wp2_with fail
    go_ret
    exact ⟨rfl, B4.out.trans (hb.mono B4.out.size)⟩
end Go.Proofs.YtnnlbllkckakbaaDoor

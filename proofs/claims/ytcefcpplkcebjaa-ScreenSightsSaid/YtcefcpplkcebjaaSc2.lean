/-
  The walks of touch and cuts of package screen and of the reference. Condition: the points are points.
-/
import Derived.Test.YtcefcpplkcebjaaSc1
import Derived.Lib.QuietBelow
import Derived.Deep.QuietTactic
namespace Go.Proofs.Ytcefcpplkcebjaa
open Go.RowKit
set_option linter.unusedVariables false

theorem cell_up {w : World} {o : Obj} {p : Addr} {u : Value} (h : w.cell? p = some u) : (w.alloc o).cell? p = some u := by
  rw [World.cell?_alloc_lt w o p (World.block_lt_of_cell? w p h)]
  exact h
theorem two_new (w : World) (a b : Value) (t : TypeId) : (w.alloc (.cells #[a, b] t)).cell? ⟨w.heap.size, 0, none⟩ = some a ∧ (w.alloc (.cells #[a, b] t)).cell? ⟨w.heap.size, 1, none⟩ = some b := by
  constructor <;> simp
theorem four_new (w : World) (v0 v1 v2 v3 v4 v5 v6 v7 : Value) (t : TypeId) :
    ((((w.alloc (.cells #[v0, v1] t)).alloc (.cells #[v2, v3] t)).alloc (.cells #[v4, v5] t)).alloc (.cells #[v6, v7] t)).cell? ⟨w.heap.size, 0, none⟩ = some v0 ∧
    ((((w.alloc (.cells #[v0, v1] t)).alloc (.cells #[v2, v3] t)).alloc (.cells #[v4, v5] t)).alloc (.cells #[v6, v7] t)).cell? ⟨w.heap.size, 1, none⟩ = some v1 ∧
    ((((w.alloc (.cells #[v0, v1] t)).alloc (.cells #[v2, v3] t)).alloc (.cells #[v4, v5] t)).alloc (.cells #[v6, v7] t)).cell? ⟨w.heap.size + 1, 0, none⟩ = some v2 ∧
    ((((w.alloc (.cells #[v0, v1] t)).alloc (.cells #[v2, v3] t)).alloc (.cells #[v4, v5] t)).alloc (.cells #[v6, v7] t)).cell? ⟨w.heap.size + 1, 1, none⟩ = some v3 ∧
    ((((w.alloc (.cells #[v0, v1] t)).alloc (.cells #[v2, v3] t)).alloc (.cells #[v4, v5] t)).alloc (.cells #[v6, v7] t)).cell? ⟨w.heap.size + 1 + 1, 0, none⟩ = some v4 ∧
    ((((w.alloc (.cells #[v0, v1] t)).alloc (.cells #[v2, v3] t)).alloc (.cells #[v4, v5] t)).alloc (.cells #[v6, v7] t)).cell? ⟨w.heap.size + 1 + 1, 1, none⟩ = some v5 ∧
    ((((w.alloc (.cells #[v0, v1] t)).alloc (.cells #[v2, v3] t)).alloc (.cells #[v4, v5] t)).alloc (.cells #[v6, v7] t)).cell? ⟨w.heap.size + 1 + 1 + 1, 0, none⟩ = some v6 ∧
    ((((w.alloc (.cells #[v0, v1] t)).alloc (.cells #[v2, v3] t)).alloc (.cells #[v4, v5] t)).alloc (.cells #[v6, v7] t)).cell? ⟨w.heap.size + 1 + 1 + 1, 1, none⟩ = some v7 ∧
    w.heap.size + 4 ≤ ((((w.alloc (.cells #[v0, v1] t)).alloc (.cells #[v2, v3] t)).alloc (.cells #[v4, v5] t)).alloc (.cells #[v6, v7] t)).heap.size ∧
    Below w.heap.size w ((((w.alloc (.cells #[v0, v1] t)).alloc (.cells #[v2, v3] t)).alloc (.cells #[v4, v5] t)).alloc (.cells #[v6, v7] t)) := by
  have a := two_new w v0 v1 t
  have b := two_new (w.alloc (.cells #[v0, v1] t)) v2 v3 t
  have c := two_new ((w.alloc (.cells #[v0, v1] t)).alloc (.cells #[v2, v3] t)) v4 v5 t
  have d := two_new (((w.alloc (.cells #[v0, v1] t)).alloc (.cells #[v2, v3] t)).alloc (.cells #[v4, v5] t)) v6 v7 t
  simp only [World.size_alloc] at b c d
  exact ⟨cell_up (cell_up (cell_up a.1)), cell_up (cell_up (cell_up a.2)), cell_up (cell_up b.1), cell_up (cell_up b.2), cell_up c.1, cell_up c.2, d.1, d.2, by simp, ((((Below.refl _ _).alloc (Nat.le_refl _) _).alloc (by simp) _).alloc (by simp; omega) _).alloc (by simp; omega) _⟩
set_option maxRecDepth 100000 in
set_option maxHeartbeats 400000 in
theorem rtouch_any (a b c d : Pt) (w : World) (ha : okP a = true) (hb : okP b = true) (hc : okP c = true) (hd : okP d = true) :
    Calls Try.prog 53 #[a.v, b.v, c.v, d.v] w fun e w' => e = .returned (.bool (touchB a b c d)) ∧ Below w.heap.size w w' := by
  have X1 := Lib.hid (fun w => parted_any a.x b.x c.x d.x w)
  have X2 := Lib.hid (fun w => parted_any a.y b.y c.y d.y w)
  have S1 := Lib.hid (fun w => rside_any a b c w ha hb hc)
  have S2 := Lib.hid (fun w => rside_any a b d w ha hb hd)
  have S3 := Lib.hid (fun w => rside_any c d a w hc hd ha)
  have S4 := Lib.hid (fun w => rside_any c d b w hc hd hb)
  obtain ⟨p1, p1'⟩ := side2_le ha hb hc hd
  obtain ⟨p2, p2'⟩ := side2_le hc hd ha hb
  unfold touchB
  generalize side a b c = s1 at *
  generalize side a b d = s2 at *
  generalize side c d a = s3 at *
  generalize side c d b = s4 at *
  generalize meetI a.x b.x c.x d.x = m1 at *
  generalize meetI a.y b.y c.y d.y = m2 at *
  obtain ⟨ax, ay⟩ := a
  obtain ⟨bx, bz⟩ := b
  obtain ⟨cx, cy⟩ := c
  obtain ⟨dx, dy⟩ := d
  unfold Pt.v at *
  simp only at *
  clear ha hb hc hd
  obtain ⟨W, hW⟩ : ∃ W, ((((w.alloc (.cells #[.int .i64 ax, .int .i64 ay] 23)).alloc (.cells #[.int .i64 bx, .int .i64 bz] 23)).alloc (.cells #[.int .i64 cx, .int .i64 cy] 23)).alloc (.cells #[.int .i64 dx, .int .i64 dy] 23)) = W := ⟨_, rfl⟩
  obtain ⟨h0, h1, h2, h3, h4, h5, h6, h7, _, hb0⟩ := four_new w (.int .i64 ax) (.int .i64 ay) (.int .i64 bx) (.int .i64 bz) (.int .i64 cx) (.int .i64 cy) (.int .i64 dx) (.int .i64 dy) 23
  rw [hW] at h0 h1 h2 h3 h4 h5 h6 h7 hb0
  have B := Lib.hid hb0
  have SZ := Lib.hid hb0.size
  have HW := Lib.hid hW
  have ew1 : IntKind.i64.wrap (s1 * s2) = s1 * s2 := IntWalk.i64_in _ (by omega)
  have ew2 : IntKind.i64.wrap (s3 * s4) = s3 * s4 := IntWalk.i64_in _ (by omega)
  have g0 := fun d os => cell_regrown h0 d os
  have g1 := fun d os => cell_regrown h1 d os
  have g2 := fun d os => cell_regrown h2 d os
  have g3 := fun d os => cell_regrown h3 d os
  have g4 := fun d os => cell_regrown h4 d os
  have g5 := fun d os => cell_regrown h5 d os
  have g6 := fun d os => cell_regrown h6 d os
  have g7 := fun d os => cell_regrown h7 d os
  clear hb0 p1 p1' p2 p2'
  cases m1
  · go_enter Try.func53, Try.ntmps53
    go_wp2_with fail
    refine (X1.out _).mono ?_
    rintro e w' ⟨rfl, rfl⟩
    go_wp2_with fail
    go_ret
    exact ⟨rfl, B.out⟩
  cases m2
  · go_enter Try.func53, Try.ntmps53
    go_wp2_with fail
    refine (X1.out _).mono ?_
    rintro e w' ⟨rfl, rfl⟩
    go_wp2_with fail
    refine (X2.out _).mono ?_
    rintro e w' ⟨rfl, rfl⟩
    go_wp2_with fail
    go_ret
    exact ⟨rfl, B.out⟩
  cases q1 : decide (s1 * s2 ≤ 0)
  · go_enter Try.func53, Try.ntmps53
    go_wp2_with fail
    refine (X1.out _).mono ?_
    rintro e w' ⟨rfl, rfl⟩
    go_wp2_with fail
    refine (X2.out _).mono ?_
    rintro e w' ⟨rfl, rfl⟩
    go_wp2_with fail
    refine wp_region_quiet_below (by kernel_rfl) (by kernel_rfl) ?_
    repeat (go_big_quiet_step (first | with_reducible exact Calls.regrown_of (S1.out _) | with_reducible exact Calls.regrown_of (S2.out _) | with_reducible exact Calls.regrown_of (S3.out _) | with_reducible exact Calls.regrown_of (S4.out _)))
    refine wpQuiet_nil ?_
    intro _ hw'
    obtain ⟨⟨dq, osq⟩, hw''⟩ := hw'
    subst hw''
    go_wp2_with fail
    go_ret
    exact ⟨rfl, B.out.trans ((below_regrown W dq osq).mono SZ.out)⟩
  · go_enter Try.func53, Try.ntmps53
    go_wp2_with fail
    refine (X1.out _).mono ?_
    rintro e w' ⟨rfl, rfl⟩
    go_wp2_with fail
    refine (X2.out _).mono ?_
    rintro e w' ⟨rfl, rfl⟩
    go_wp2_with fail
    refine wp_region_quiet_below (by kernel_rfl) (by kernel_rfl) ?_
    repeat (go_big_quiet_step (first | with_reducible exact Calls.regrown_of (S1.out _) | with_reducible exact Calls.regrown_of (S2.out _) | with_reducible exact Calls.regrown_of (S3.out _) | with_reducible exact Calls.regrown_of (S4.out _)))
    refine wpQuiet_nil ?_
    intro _ hw'
    obtain ⟨⟨dq, osq⟩, hw''⟩ := hw'
    subst hw''
    go_wp2_with fail
    go_ret
    exact ⟨rfl, B.out.trans ((below_regrown W dq osq).mono SZ.out)⟩
theorem below_same {P : Program} {f : FuncId} {args : Array Value} {w : World} {v : Value} (h : Calls P f args w fun e w' => e = .returned v ∧ w = w') : Calls P f args w fun e w' => e = .returned v ∧ Below w.heap.size w w' :=
  h.mono fun _ _ ⟨he, hw⟩ => ⟨he, hw ▸ Below.refl _ _⟩
set_option maxRecDepth 100000 in
set_option maxHeartbeats 400000 in
theorem touch_any (a b c d : Pt) (w : World) (ha : okP a = true) (hb : okP b = true) (hc : okP c = true) (hd : okP d = true) :
    Calls Try.prog 51 #[a.v, b.v, c.v, d.v] w fun e w' => e = .returned (.bool (touchB a b c d)) ∧ Below w.heap.size w w' := by
  have X1 := Lib.hid (fun w => below_same (meet_any a.x b.x c.x d.x w))
  have X2 := Lib.hid (fun w => below_same (meet_any a.y b.y c.y d.y w))
  have S1 := Lib.hid (fun w => side_any a b c w ha hb hc)
  have S2 := Lib.hid (fun w => side_any a b d w ha hb hd)
  have S3 := Lib.hid (fun w => side_any c d a w hc hd ha)
  have S4 := Lib.hid (fun w => side_any c d b w hc hd hb)
  obtain ⟨p1, p1'⟩ := side2_le ha hb hc hd
  obtain ⟨p2, p2'⟩ := side2_le hc hd ha hb
  unfold touchB
  generalize side a b c = s1 at *
  generalize side a b d = s2 at *
  generalize side c d a = s3 at *
  generalize side c d b = s4 at *
  generalize meetI a.x b.x c.x d.x = m1 at *
  generalize meetI a.y b.y c.y d.y = m2 at *
  obtain ⟨ax, ay⟩ := a
  obtain ⟨bx, bz⟩ := b
  obtain ⟨cx, cy⟩ := c
  obtain ⟨dx, dy⟩ := d
  unfold Pt.v at *
  simp only at *
  clear ha hb hc hd
  obtain ⟨W, hW⟩ : ∃ W, ((((w.alloc (.cells #[.int .i64 ax, .int .i64 ay] 23)).alloc (.cells #[.int .i64 bx, .int .i64 bz] 23)).alloc (.cells #[.int .i64 cx, .int .i64 cy] 23)).alloc (.cells #[.int .i64 dx, .int .i64 dy] 23)) = W := ⟨_, rfl⟩
  obtain ⟨h0, h1, h2, h3, h4, h5, h6, h7, _, hb0⟩ := four_new w (.int .i64 ax) (.int .i64 ay) (.int .i64 bx) (.int .i64 bz) (.int .i64 cx) (.int .i64 cy) (.int .i64 dx) (.int .i64 dy) 23
  rw [hW] at h0 h1 h2 h3 h4 h5 h6 h7 hb0
  have B := Lib.hid hb0
  have SZ := Lib.hid hb0.size
  have HW := Lib.hid hW
  have ew1 : IntKind.i64.wrap (s1 * s2) = s1 * s2 := IntWalk.i64_in _ (by omega)
  have ew2 : IntKind.i64.wrap (s3 * s4) = s3 * s4 := IntWalk.i64_in _ (by omega)
  have g0 := fun d os => cell_regrown h0 d os
  have g1 := fun d os => cell_regrown h1 d os
  have g2 := fun d os => cell_regrown h2 d os
  have g3 := fun d os => cell_regrown h3 d os
  have g4 := fun d os => cell_regrown h4 d os
  have g5 := fun d os => cell_regrown h5 d os
  have g6 := fun d os => cell_regrown h6 d os
  have g7 := fun d os => cell_regrown h7 d os
  clear hb0 p1 p1' p2 p2'
  cases m1
  · go_enter Try.func51, Try.ntmps51
    go_wp2_with fail
    refine wp_region_quiet_below (by kernel_rfl) (by kernel_rfl) ?_
    repeat (go_big_quiet_step (first | with_reducible exact Calls.regrown_of (S1.out _) | with_reducible exact Calls.regrown_of (S2.out _) | with_reducible exact Calls.regrown_of (S3.out _) | with_reducible exact Calls.regrown_of (S4.out _) | with_reducible exact Calls.regrown_of (X1.out _) | with_reducible exact Calls.regrown_of (X2.out _)))
    refine wpQuiet_nil ?_
    intro _ hw'
    obtain ⟨⟨dq, osq⟩, hw''⟩ := hw'
    subst hw''
    go_wp2_with fail
    go_ret
    exact ⟨rfl, B.out.trans ((below_regrown W dq osq).mono SZ.out)⟩
  cases m2
  · go_enter Try.func51, Try.ntmps51
    go_wp2_with fail
    refine wp_region_quiet_below (by kernel_rfl) (by kernel_rfl) ?_
    repeat (go_big_quiet_step (first | with_reducible exact Calls.regrown_of (S1.out _) | with_reducible exact Calls.regrown_of (S2.out _) | with_reducible exact Calls.regrown_of (S3.out _) | with_reducible exact Calls.regrown_of (S4.out _) | with_reducible exact Calls.regrown_of (X1.out _) | with_reducible exact Calls.regrown_of (X2.out _)))
    refine wpQuiet_nil ?_
    intro _ hw'
    obtain ⟨⟨dq, osq⟩, hw''⟩ := hw'
    subst hw''
    go_wp2_with fail
    go_ret
    exact ⟨rfl, B.out.trans ((below_regrown W dq osq).mono SZ.out)⟩
  cases q1 : decide (s1 * s2 ≤ 0)
  · go_enter Try.func51, Try.ntmps51
    go_wp2_with fail
    refine wp_region_quiet_below (by kernel_rfl) (by kernel_rfl) ?_
    repeat (go_big_quiet_step (first | with_reducible exact Calls.regrown_of (S1.out _) | with_reducible exact Calls.regrown_of (S2.out _) | with_reducible exact Calls.regrown_of (S3.out _) | with_reducible exact Calls.regrown_of (S4.out _) | with_reducible exact Calls.regrown_of (X1.out _) | with_reducible exact Calls.regrown_of (X2.out _)))
    refine wpQuiet_nil ?_
    intro _ hw'
    obtain ⟨⟨dq, osq⟩, hw''⟩ := hw'
    subst hw''
    go_wp2_with fail
    go_ret
    exact ⟨rfl, B.out.trans ((below_regrown W dq osq).mono SZ.out)⟩
  · go_enter Try.func51, Try.ntmps51
    go_wp2_with fail
    refine wp_region_quiet_below (by kernel_rfl) (by kernel_rfl) ?_
    repeat (go_big_quiet_step (first | with_reducible exact Calls.regrown_of (S1.out _) | with_reducible exact Calls.regrown_of (S2.out _) | with_reducible exact Calls.regrown_of (S3.out _) | with_reducible exact Calls.regrown_of (S4.out _) | with_reducible exact Calls.regrown_of (X1.out _) | with_reducible exact Calls.regrown_of (X2.out _)))
    refine wpQuiet_nil ?_
    intro _ hw'
    obtain ⟨⟨dq, osq⟩, hw''⟩ := hw'
    subst hw''
    go_wp2_with fail
    go_ret
    exact ⟨rfl, B.out.trans ((below_regrown W dq osq).mono SZ.out)⟩
def Sg.cut (s : Sg) (a b : Pt) : Bool := touchB s.a s.b a b
theorem cuts_any (s : Sg) (a b : Pt) (w : World) (h0 : okP s.a = true) (h1 : okP s.b = true) (ha : okP a = true) (hb : okP b = true) :
    Calls Try.prog 58 #[s.v, a.v, b.v] w fun e w' => e = .returned (.bool (s.cut a b)) ∧ Below w.heap.size w w' := by
  have H := Lib.hid (fun w => touch_any s.a s.b a b w h0 h1 ha hb)
  clear h0 h1 ha hb
  obtain ⟨⟨x0, y0⟩, ⟨x1, y1⟩⟩ := s
  obtain ⟨ax, ay⟩ := a
  obtain ⟨bx, bz⟩ := b
  unfold Pt.v Sg.v Sg.cut at *
  simp only at *
  go_enter Try.func58, Try.ntmps58
  go_wp2_with fail
  refine (H.out _).mono ?_
  rintro e w1 ⟨rfl, hb⟩
  go_wp2_with fail
  go_ret
  exact ⟨rfl, ((((Below.refl _ _).alloc (Nat.le_refl _) _).alloc (by simp) _).alloc (by simp; omega) _).trans (hb.mono (by simp; omega))⟩
end Go.Proofs.Ytcefcpplkcebjaa

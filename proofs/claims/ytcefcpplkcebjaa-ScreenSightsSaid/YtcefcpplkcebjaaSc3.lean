/-
  The walks of Touch and Validate of package screen and of the reference. No condition.
-/
import Derived.Test.YtcefcpplkcebjaaSc2
import Derived.Laws.StructEq
namespace Go.Proofs.Ytcefcpplkcebjaa
open Go.RowKit
set_option linter.unusedVariables false

theorem Rd.of_block {w : World} {g : Nat} {e : TypeId} {xs : List Value} (h : w.heap[g]? = some (.cells xs.toArray e (0, 0))) : Rd w w.heap.size (some ⟨g, 0, none⟩) xs :=
  .inr ⟨g, 0, rfl, lt_of_block h, fun i u hu => by simp [World.cell?, h, hu]⟩
theorem Rd.lit (w : World) (cs : List Value) (e : TypeId) : Rd (w.alloc (.cells cs.toArray e)) (w.alloc (.cells cs.toArray e)).heap.size (some ⟨w.heap.size, 0, none⟩) cs :=
  Rd.of_block (heap_alloc_new w _)
def tE (b : Bool) : Int := if b then 0 else 1
theorem arePoints_lit2 (a b : Pt) (w : World) : Calls Try.prog 50 #[.slice (some ⟨w.heap.size, 0, none⟩) 2 2] (w.alloc (.cells #[.int .i64 a.x, .int .i64 a.y, .int .i64 b.x, .int .i64 b.y] 23)) fun e w' => e = .returned (.bool (okP a && okP b)) ∧ Below w.heap.size w w' := by
  refine (arePoints_any _ 2 [a, b] 2 _ rfl (Rd.lit w ([a, b].flatMap Pt.cells) 23) (by decide)).mono ?_
  rintro e w' ⟨rfl, hb⟩
  exact ⟨by simp [allP], ((Below.refl _ _).alloc (Nat.le_refl _) _).trans (hb.mono (by simp))⟩
theorem rarePoints_lit2 (a b : Pt) (w : World) : Calls Try.prog 52 #[.slice (some ⟨w.heap.size, 0, none⟩) 2 2] (w.alloc (.cells #[.int .i64 a.x, .int .i64 a.y, .int .i64 b.x, .int .i64 b.y] 23)) fun e w' => e = .returned (.bool (okP a && okP b)) ∧ Below w.heap.size w w' := by
  refine (rarePoints_any _ 2 [a, b] 2 _ rfl (Rd.lit w ([a, b].flatMap Pt.cells) 23) (by decide)).mono ?_
  rintro e w' ⟨rfl, hb⟩
  exact ⟨by simp [allP], ((Below.refl _ _).alloc (Nat.le_refl _) _).trans (hb.mono (by simp))⟩
theorem arePoints_lit4 (a b c d : Pt) (w : World) : Calls Try.prog 50 #[.slice (some ⟨w.heap.size, 0, none⟩) 4 4] (w.alloc (.cells #[.int .i64 a.x, .int .i64 a.y, .int .i64 b.x, .int .i64 b.y, .int .i64 c.x, .int .i64 c.y, .int .i64 d.x, .int .i64 d.y] 23)) fun e w' => e = .returned (.bool (allP [a, b, c, d])) ∧ Below w.heap.size w w' := by
  refine (arePoints_any _ 4 [a, b, c, d] 4 _ rfl (Rd.lit w ([a, b, c, d].flatMap Pt.cells) 23) (by decide)).mono ?_
  rintro e w' ⟨rfl, hb⟩
  exact ⟨rfl, ((Below.refl _ _).alloc (Nat.le_refl _) _).trans (hb.mono (by simp))⟩
theorem rarePoints_lit4 (a b c d : Pt) (w : World) : Calls Try.prog 52 #[.slice (some ⟨w.heap.size, 0, none⟩) 4 4] (w.alloc (.cells #[.int .i64 a.x, .int .i64 a.y, .int .i64 b.x, .int .i64 b.y, .int .i64 c.x, .int .i64 c.y, .int .i64 d.x, .int .i64 d.y] 23)) fun e w' => e = .returned (.bool (allP [a, b, c, d])) ∧ Below w.heap.size w w' := by
  refine (rarePoints_any _ 4 [a, b, c, d] 4 _ rfl (Rd.lit w ([a, b, c, d].flatMap Pt.cells) 23) (by decide)).mono ?_
  rintro e w' ⟨rfl, hb⟩
  exact ⟨rfl, ((Below.refl _ _).alloc (Nat.le_refl _) _).trans (hb.mono (by simp))⟩
def touchV (a b c d : Pt) : Bool := if allP [a, b, c, d] then touchB a b c d else false
set_option maxHeartbeats 400000 in
theorem Touch_any (a b c d : Pt) (w : World) :
    Calls Try.prog 15 #[a.v, b.v, c.v, d.v] w fun e w' => e = .returned (.tuple #[.bool (touchV a b c d), .int .i64 (tE (allP [a, b, c, d]))]) ∧ Below w.heap.size w w' := by
  have H := Lib.hid (fun w => arePoints_lit4 a b c d w)
  unfold touchV tE
  cases h : allP [a, b, c, d]
  · rw [h] at H
    clear h
    obtain ⟨ax, ay⟩ := a
    obtain ⟨bx, bz⟩ := b
    obtain ⟨cx, cy⟩ := c
    obtain ⟨dx, dy⟩ := d
    obtain ⟨W, hW⟩ : ∃ W, ((((w.alloc (.cells #[.int .i64 ax, .int .i64 ay] 23)).alloc (.cells #[.int .i64 bx, .int .i64 bz] 23)).alloc (.cells #[.int .i64 cx, .int .i64 cy] 23)).alloc (.cells #[.int .i64 dx, .int .i64 dy] 23)) = W := ⟨_, rfl⟩
    have F := four_new w (.int .i64 ax) (.int .i64 ay) (.int .i64 bx) (.int .i64 bz) (.int .i64 cx) (.int .i64 cy) (.int .i64 dx) (.int .i64 dy) 23
    rw [hW] at F
    obtain ⟨h0, h1, h2, h3, h4, h5, h6, h7, _, hb0⟩ := F
    have B := Lib.hid hb0
    have SZ := Lib.hid hb0.size
    clear hb0
    unfold Pt.v at *
    simp only at *
    go_enter Try.func15, Try.ntmps15
    go_wp2_with fail
    refine (H.out W).mono ?_
    rintro e w1 ⟨rfl, hb⟩
    go_wp2_with fail
    go_ret2
    exact ⟨rfl, B.out.trans (hb.mono SZ.out)⟩
  · rw [h] at H
    simp only [allP, List.all_cons, List.all_nil, Bool.and_true, Bool.and_eq_true] at h
    have T := Lib.hid (fun w => touch_any a b c d w h.1 h.2.1 h.2.2.1 h.2.2.2)
    clear h
    generalize touchB a b c d = t at *
    obtain ⟨ax, ay⟩ := a
    obtain ⟨bx, bz⟩ := b
    obtain ⟨cx, cy⟩ := c
    obtain ⟨dx, dy⟩ := d
    obtain ⟨W, hW⟩ : ∃ W, ((((w.alloc (.cells #[.int .i64 ax, .int .i64 ay] 23)).alloc (.cells #[.int .i64 bx, .int .i64 bz] 23)).alloc (.cells #[.int .i64 cx, .int .i64 cy] 23)).alloc (.cells #[.int .i64 dx, .int .i64 dy] 23)) = W := ⟨_, rfl⟩
    have F := four_new w (.int .i64 ax) (.int .i64 ay) (.int .i64 bx) (.int .i64 bz) (.int .i64 cx) (.int .i64 cy) (.int .i64 dx) (.int .i64 dy) 23
    rw [hW] at F
    obtain ⟨h0, h1, h2, h3, h4, h5, h6, h7, hn4, hb0⟩ := F
    have B := Lib.hid hb0
    have SZ := Lib.hid hb0.size
    have N4 := Lib.hid hn4
    have F8 := Lib.hid (And.intro h0 (And.intro h1 (And.intro h2 (And.intro h3 (And.intro h4 (And.intro h5 (And.intro h6 h7)))))))
    clear hb0 hn4
    unfold Pt.v at *
    simp only at *
    go_enter Try.func15, Try.ntmps15
    go_wp2_with fail
    refine (H.out W).mono ?_
    rintro e w1 ⟨rfl, hb⟩
    have k := fun b o (h : b < W.heap.size) => hb.cell (p := ⟨b, o, none⟩) h
    have n4 := N4.out
    have e0 := (k _ _ (by omega)).trans F8.out.1
    have e1 := (k _ _ (by omega)).trans F8.out.2.1
    have e2 := (k _ _ (by omega)).trans F8.out.2.2.1
    have e3 := (k _ _ (by omega)).trans F8.out.2.2.2.1
    have e4 := (k _ _ (by omega)).trans F8.out.2.2.2.2.1
    have e5 := (k _ _ (by omega)).trans F8.out.2.2.2.2.2.1
    have e6 := (k _ _ (by omega)).trans F8.out.2.2.2.2.2.2.1
    have e7 := (k _ _ (by omega)).trans F8.out.2.2.2.2.2.2.2
    have B1 := Lib.hid (B.out.trans (hb.mono SZ.out))
    clear hb k n4 h0 h1 h2 h3 h4 h5 h6 h7 hW
    go_wp2_with fail
    refine (T.out w1).mono ?_
    rintro e w2 ⟨rfl, hb⟩
    go_wp2_with fail
    go_ret2
    exact ⟨rfl, B1.out.trans (hb.mono B1.out.size)⟩
set_option maxHeartbeats 400000 in
theorem rTouch_any (a b c d : Pt) (w : World) :
    Calls Try.prog 16 #[a.v, b.v, c.v, d.v] w fun e w' => e = .returned (.tuple #[.bool (touchV a b c d), .int .i64 (tE (allP [a, b, c, d]))]) ∧ Below w.heap.size w w' := by
  have H := Lib.hid (fun w => rarePoints_lit4 a b c d w)
  unfold touchV tE
  cases h : allP [a, b, c, d]
  · rw [h] at H
    clear h
    obtain ⟨ax, ay⟩ := a
    obtain ⟨bx, bz⟩ := b
    obtain ⟨cx, cy⟩ := c
    obtain ⟨dx, dy⟩ := d
    obtain ⟨W, hW⟩ : ∃ W, ((((w.alloc (.cells #[.int .i64 ax, .int .i64 ay] 23)).alloc (.cells #[.int .i64 bx, .int .i64 bz] 23)).alloc (.cells #[.int .i64 cx, .int .i64 cy] 23)).alloc (.cells #[.int .i64 dx, .int .i64 dy] 23)) = W := ⟨_, rfl⟩
    have F := four_new w (.int .i64 ax) (.int .i64 ay) (.int .i64 bx) (.int .i64 bz) (.int .i64 cx) (.int .i64 cy) (.int .i64 dx) (.int .i64 dy) 23
    rw [hW] at F
    obtain ⟨h0, h1, h2, h3, h4, h5, h6, h7, _, hb0⟩ := F
    have B := Lib.hid hb0
    have SZ := Lib.hid hb0.size
    clear hb0
    unfold Pt.v at *
    simp only at *
    go_enter Try.func16, Try.ntmps16
    go_wp2_with fail
    refine (H.out W).mono ?_
    rintro e w1 ⟨rfl, hb⟩
    go_wp2_with fail
    go_ret2
    exact ⟨rfl, B.out.trans (hb.mono SZ.out)⟩
  · rw [h] at H
    simp only [allP, List.all_cons, List.all_nil, Bool.and_true, Bool.and_eq_true] at h
    have T := Lib.hid (fun w => rtouch_any a b c d w h.1 h.2.1 h.2.2.1 h.2.2.2)
    clear h
    generalize touchB a b c d = t at *
    obtain ⟨ax, ay⟩ := a
    obtain ⟨bx, bz⟩ := b
    obtain ⟨cx, cy⟩ := c
    obtain ⟨dx, dy⟩ := d
    obtain ⟨W, hW⟩ : ∃ W, ((((w.alloc (.cells #[.int .i64 ax, .int .i64 ay] 23)).alloc (.cells #[.int .i64 bx, .int .i64 bz] 23)).alloc (.cells #[.int .i64 cx, .int .i64 cy] 23)).alloc (.cells #[.int .i64 dx, .int .i64 dy] 23)) = W := ⟨_, rfl⟩
    have F := four_new w (.int .i64 ax) (.int .i64 ay) (.int .i64 bx) (.int .i64 bz) (.int .i64 cx) (.int .i64 cy) (.int .i64 dx) (.int .i64 dy) 23
    rw [hW] at F
    obtain ⟨h0, h1, h2, h3, h4, h5, h6, h7, hn4, hb0⟩ := F
    have B := Lib.hid hb0
    have SZ := Lib.hid hb0.size
    have N4 := Lib.hid hn4
    have F8 := Lib.hid (And.intro h0 (And.intro h1 (And.intro h2 (And.intro h3 (And.intro h4 (And.intro h5 (And.intro h6 h7)))))))
    clear hb0 hn4
    unfold Pt.v at *
    simp only at *
    go_enter Try.func16, Try.ntmps16
    go_wp2_with fail
    refine (H.out W).mono ?_
    rintro e w1 ⟨rfl, hb⟩
    have k := fun b o (h : b < W.heap.size) => hb.cell (p := ⟨b, o, none⟩) h
    have n4 := N4.out
    have e0 := (k _ _ (by omega)).trans F8.out.1
    have e1 := (k _ _ (by omega)).trans F8.out.2.1
    have e2 := (k _ _ (by omega)).trans F8.out.2.2.1
    have e3 := (k _ _ (by omega)).trans F8.out.2.2.2.1
    have e4 := (k _ _ (by omega)).trans F8.out.2.2.2.2.1
    have e5 := (k _ _ (by omega)).trans F8.out.2.2.2.2.2.1
    have e6 := (k _ _ (by omega)).trans F8.out.2.2.2.2.2.2.1
    have e7 := (k _ _ (by omega)).trans F8.out.2.2.2.2.2.2.2
    have B1 := Lib.hid (B.out.trans (hb.mono SZ.out))
    clear hb k n4 h0 h1 h2 h3 h4 h5 h6 h7 hW
    go_wp2_with fail
    refine (T.out w1).mono ?_
    rintro e w2 ⟨rfl, hb⟩
    go_wp2_with fail
    go_ret2
    exact ⟨rfl, B1.out.trans (hb.mono B1.out.size)⟩
end Go.Proofs.Ytcefcpplkcebjaa

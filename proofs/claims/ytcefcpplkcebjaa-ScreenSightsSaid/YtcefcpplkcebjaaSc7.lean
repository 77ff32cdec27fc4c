/-
  The walks of Sees of package screen, of the law's known, of the law ScreenTouches. No condition.
-/
import Derived.Test.YtcefcpplkcebjaaSc6
namespace Go.Proofs.Ytcefcpplkcebjaa
open Go.RowKit
set_option linter.unusedVariables false

set_option maxRecDepth 4000 in
set_option maxHeartbeats 400000 in
theorem Sees_any (A : Option Addr) (c n : Nat) (l : List Sg) (a b : Pt) (w : World) (hlen : l.length = n) (hr : Rd w w.heap.size A (l.flatMap Sg.cells)) (hn : n ≤ 9223372036854775807) :
    Calls Try.prog 19 #[.slice A n c, a.v, b.v] w fun e w' => e = .returned (.tuple #[.bool (seesV l a b), .int .i64 (sightE l a b)]) ∧ Below w.heap.size w w' := by
  subst hlen
  have HR := Lib.hid hr
  have HV := Lib.hid (fun w h => checkSight_any A c l a b w h hn)
  clear hr
  unfold seesV
  have HP := Lib.hid (fun w h (h0 : sightE l a b = 0) => sees_any A c l a b w h hn (pts_of (sight_zero h0).1) (sight_zero h0).2.1 (sight_zero h0).2.2)
  generalize seesB l a b = S at *
  generalize sightE l a b = E at *
  obtain ⟨ax, ay⟩ := a
  obtain ⟨bx, bz⟩ := b
  obtain ⟨W, hW⟩ : ∃ W, ((w.alloc (.cells #[.int .i64 ax, .int .i64 ay] 23)).alloc (.cells #[.int .i64 bx, .int .i64 bz] 23)) = W := ⟨_, rfl⟩
  have F := two_box w (.int .i64 ax) (.int .i64 ay) (.int .i64 bx) (.int .i64 bz) 23
  rw [hW] at F
  obtain ⟨h0, h1, h2, h3, hz, hb0⟩ := F
  have B := Lib.hid hb0
  have N4 := Lib.hid hz
  have F4 := Lib.hid (And.intro h0 (And.intro h1 (And.intro h2 h3)))
  have RW := Lib.hid ((HR.out.below hb0 (Nat.le_refl _)).more hb0.size)
  clear hb0 hz
  unfold Pt.v at *
  simp only at HV HP
  by_cases hv : E = 0
  · subst hv
    rw [if_pos rfl]
    have HQ := Lib.hid (fun w h => HP.out w h rfl)
    go_enter Try.func19, Try.ntmps19
    go_wp2_with fail
    refine (HV.out W RW.out).mono ?_
    rintro e w1 ⟨rfl, hb⟩
    have k := fun b o (h : b < W.heap.size) => hb.cell (p := ⟨b, o, none⟩) h
    have n4 := N4.out
    have e0 := (k _ _ (by omega)).trans F4.out.1
    have e1 := (k _ _ (by omega)).trans F4.out.2.1
    have e2 := (k _ _ (by omega)).trans F4.out.2.2.1
    have e3 := (k _ _ (by omega)).trans F4.out.2.2.2
    have B1 := Lib.hid (B.out.trans (hb.mono B.out.size))
    have R1 := Lib.hid ((HR.out.below B1.out (Nat.le_refl _)).more B1.out.size)
    clear hb k n4 hW h0 h1 h2 h3
    go_wp2_with fail
    refine (HQ.out w1 R1.out).mono ?_
    rintro e w2 ⟨rfl, hb⟩
    go_wp2_with fail
    go_ret2
    exact ⟨rfl, B1.out.trans (hb.mono B1.out.size)⟩
  · rw [if_neg hv]
    have hE : (E == 0) = false := by simpa using hv
    have hE' : (E != 0) = true := by simpa using hv
    clear hv
    go_enter Try.func19, Try.ntmps19
    go_wp2_with fail
    refine (HV.out W RW.out).mono ?_
    rintro e w1 ⟨rfl, hb⟩
    go_wp2_with fail
    go_ret2
    exact ⟨rfl, B.out.trans (hb.mono B.out.size)⟩

/-! ### The document's examples -/
def ex : List Sg := [⟨⟨0, 0⟩, ⟨0, 5⟩⟩]
theorem ex1 : seesV ex ⟨-1, 2⟩ ⟨1, 2⟩ = false ∧ sightE ex ⟨-1, 2⟩ ⟨1, 2⟩ = 0 := by decide +kernel
theorem ex2 : seesV ex ⟨-1, 6⟩ ⟨1, 6⟩ = true ∧ sightE ex ⟨-1, 6⟩ ⟨1, 6⟩ = 0 := by decide +kernel
theorem ex3 : seesV ex ⟨-1, 10⟩ ⟨1, 0⟩ = false ∧ sightE ex ⟨-1, 10⟩ ⟨1, 0⟩ = 0 := by decide +kernel
theorem Sees_ex (A : Option Addr) (a b : Pt) (v : Bool) (w : World) (hv : seesV ex a b = v ∧ sightE ex a b = 0) (hr : Rd w w.heap.size A (ex.flatMap Sg.cells)) :
    Calls Try.prog 19 #[.slice A 1 1, a.v, b.v] w fun e w' => e = .returned (.tuple #[.bool v, .int .i64 0]) ∧ Below w.heap.size w w' := by
  have := Sees_any A 1 1 ex a b w rfl hr (by decide)
  rw [hv.1, hv.2] at this
  exact this
set_option maxHeartbeats 400000 in
theorem known_ok (w : World) : Calls Try.prog 17 #[] w fun e w' => e = .returned (.bool true) ∧ Below w.heap.size w w' := by
  have E1 := Lib.hid (fun (w : World) h => Sees_ex (some ⟨w.heap.size, 0, none⟩) ⟨-1, 2⟩ ⟨1, 2⟩ false (w.alloc (.cells #[.int .i64 0, .int .i64 0, .int .i64 0, .int .i64 5] 71)) ex1 h)
  have E2 := Lib.hid (fun A (w : World) h => Sees_ex A ⟨-1, 6⟩ ⟨1, 6⟩ true w ex2 h)
  have E3 := Lib.hid (fun A (w : World) h => Sees_ex A ⟨-1, 10⟩ ⟨1, 0⟩ false w ex3 h)
  have R0 := Lib.hid (Rd.lit w (ex.flatMap Sg.cells) 71)
  have B0 := Lib.hid ((Below.refl w.heap.size w).alloc (Nat.le_refl _) (.cells #[.int .i64 0, .int .i64 0, .int .i64 0, .int .i64 5] 71))
  unfold Pt.v at *
  simp only at E1 E2 E3
  go_enter Try.func17, Try.ntmps17
  go_wp2_with fail
  refine (E1.out w R0.out).mono ?_
  rintro e w1 ⟨rfl, hb⟩
  have B1 := Lib.hid (B0.out.trans (hb.mono B0.out.size))
  have R1 := Lib.hid ((R0.out.below hb (Nat.le_refl _)).more hb.size)
  clear hb
  go_wp2_with fail
  refine (E2.out _ w1 R1.out).mono ?_
  rintro e w2 ⟨rfl, hb⟩
  have B2 := Lib.hid (B1.out.trans (hb.mono B1.out.size))
  have R2 := Lib.hid ((R1.out.below hb (Nat.le_refl _)).more hb.size)
  clear hb
  go_wp2_with fail
  refine (E3.out _ w2 R2.out).mono ?_
  rintro e w3 ⟨rfl, hb⟩
  have B3 := Lib.hid (B2.out.trans (hb.mono B2.out.size))
  clear hb
  go_wp2_with fail
  go_ret
  exact ⟨rfl, B3.out⟩

theorem all_swap (a b c d : Pt) : allP [d, c, a, b] = allP [a, b, c, d] := by
  unfold allP
  simp only [List.all_cons, List.all_nil, Bool.and_true]
  cases okP a <;> cases okP b <;> cases okP c <;> cases okP d <;> rfl
theorem touchV_swap (a b c d : Pt) : touchV d c a b = touchV a b c d := by unfold touchV; rw [all_swap, ← touch_swap]
set_option maxRecDepth 4000 in
set_option maxHeartbeats 800000 in
theorem ScreenTouches_walk (x y : Sg) (w : World) :
    Calls Try.prog 3 #[x.v, y.v] w fun e w' => e = .returned (.bool true) ∧ Below w.heap.size w w' := by
  have T1 := Lib.hid (fun w => Touch_any x.a x.b y.a y.b w)
  have T2 := Lib.hid (fun w => rTouch_any x.a x.b y.a y.b w)
  have T3 := Lib.hid (fun w => Touch_any y.b y.a x.a x.b w)
  rw [touchV_swap, all_swap] at T3
  generalize touchV x.a x.b y.a y.b = t at *
  generalize tE (allP [x.a, x.b, y.a, y.b]) = E at *
  obtain ⟨⟨x0, x1⟩, ⟨x2, x3⟩⟩ := x
  obtain ⟨⟨y0, y1⟩, ⟨y2, y3⟩⟩ := y
  unfold Pt.v Sg.v at *
  simp only at T1 T2 T3
  have hb0 : Below w.heap.size w ((w.alloc (.cells #[.int .i64 x0, .int .i64 x1, .int .i64 x2, .int .i64 x3] 25)).alloc (.cells #[.int .i64 y0, .int .i64 y1, .int .i64 y2, .int .i64 y3] 25)) := ((Below.refl _ _).alloc (Nat.le_refl _) _).alloc (by simp) _
  have q0 : ∀ i u, [Value.int .i64 x0, .int .i64 x1, .int .i64 x2, .int .i64 x3][i]? = some u → ((w.alloc (.cells #[.int .i64 x0, .int .i64 x1, .int .i64 x2, .int .i64 x3] 25)).alloc (.cells #[.int .i64 y0, .int .i64 y1, .int .i64 y2, .int .i64 y3] 25)).cell? ⟨w.heap.size, i, none⟩ = some u := by
    intro i u hu
    refine cell_up ?_
    have h := heap_alloc_new w (.cells #[.int .i64 x0, .int .i64 x1, .int .i64 x2, .int .i64 x3] 25)
    rw [cell_of_row _ _ _ _ _ _ h]
    simpa using hu
  have q1 : ∀ i u, [Value.int .i64 y0, .int .i64 y1, .int .i64 y2, .int .i64 y3][i]? = some u → ((w.alloc (.cells #[.int .i64 x0, .int .i64 x1, .int .i64 x2, .int .i64 x3] 25)).alloc (.cells #[.int .i64 y0, .int .i64 y1, .int .i64 y2, .int .i64 y3] 25)).cell? ⟨w.heap.size + 1, i, none⟩ = some u := by
    intro i u hu
    have h := heap_alloc_new (w.alloc (.cells #[.int .i64 x0, .int .i64 x1, .int .i64 x2, .int .i64 x3] 25)) (.cells #[.int .i64 y0, .int .i64 y1, .int .i64 y2, .int .i64 y3] 25)
    rw [World.size_alloc] at h
    rw [cell_of_row _ _ _ _ _ _ h]
    simpa using hu
  have hsz : ((w.alloc (.cells #[.int .i64 x0, .int .i64 x1, .int .i64 x2, .int .i64 x3] 25)).alloc (.cells #[.int .i64 y0, .int .i64 y1, .int .i64 y2, .int .i64 y3] 25)).heap.size = w.heap.size + 2 := by simp
  obtain ⟨W, hW⟩ : ∃ W, ((w.alloc (.cells #[.int .i64 x0, .int .i64 x1, .int .i64 x2, .int .i64 x3] 25)).alloc (.cells #[.int .i64 y0, .int .i64 y1, .int .i64 y2, .int .i64 y3] 25)) = W := ⟨_, rfl⟩
  rw [hW] at hb0 q0 q1 hsz
  have B := Lib.hid hb0
  have SZ := Lib.hid hsz
  have a0 := q0 0 _ rfl
  have a1 := q0 1 _ rfl
  have a2 := q0 2 _ rfl
  have a3 := q0 3 _ rfl
  have c0 := q1 0 _ rfl
  have c1 := q1 1 _ rfl
  have c2 := q1 2 _ rfl
  have c3 := q1 3 _ rfl
  clear q0 q1 hb0 hsz
  have F := Lib.hid (And.intro a0 (And.intro a1 (And.intro a2 (And.intro a3 (And.intro c0 (And.intro c1 (And.intro c2 c3)))))))
  go_enter Try.func3, Try.ntmps3
  go_wp2_with fail
  clear hW a0 a1 a2 a3 c0 c1 c2 c3
  refine (T1.out W).mono ?_
  rintro e w1 ⟨rfl, hb⟩
  have k := fun b o (h : b < W.heap.size) => hb.cell (p := ⟨b, o, none⟩) h
  have n4 := SZ.out
  have a0 := (k _ _ (by omega)).trans F.out.1
  have a1 := (k _ _ (by omega)).trans F.out.2.1
  have a2 := (k _ _ (by omega)).trans F.out.2.2.1
  have a3 := (k _ _ (by omega)).trans F.out.2.2.2.1
  have c0 := (k _ _ (by omega)).trans F.out.2.2.2.2.1
  have c1 := (k _ _ (by omega)).trans F.out.2.2.2.2.2.1
  have c2 := (k _ _ (by omega)).trans F.out.2.2.2.2.2.2.1
  have c3 := (k _ _ (by omega)).trans F.out.2.2.2.2.2.2.2
  have B1 := Lib.hid (B.out.trans (hb.mono B.out.size))
  have BW1 := Lib.hid hb
  clear hb k n4
  go_wp2_with fail
  clear a0 a1 a2 a3 c0 c1 c2 c3
  refine (T2.out w1).mono ?_
  rintro e w2 ⟨rfl, hb⟩
  have BW2 := Lib.hid (BW1.out.trans (hb.mono BW1.out.size))
  have k := fun b o (h : b < W.heap.size) => BW2.out.cell (p := ⟨b, o, none⟩) h
  have n4 := SZ.out
  have a0 := (k _ _ (by omega)).trans F.out.1
  have a1 := (k _ _ (by omega)).trans F.out.2.1
  have a2 := (k _ _ (by omega)).trans F.out.2.2.1
  have a3 := (k _ _ (by omega)).trans F.out.2.2.2.1
  have c0 := (k _ _ (by omega)).trans F.out.2.2.2.2.1
  have c1 := (k _ _ (by omega)).trans F.out.2.2.2.2.2.1
  have c2 := (k _ _ (by omega)).trans F.out.2.2.2.2.2.2.1
  have c3 := (k _ _ (by omega)).trans F.out.2.2.2.2.2.2.2
  clear hb k n4
  go_wp2_with fail
  clear a0 a1 a2 a3 c0 c1 c2 c3
  refine (T3.out w2).mono ?_
  rintro e w3 ⟨rfl, hb⟩
  have BW3 := Lib.hid (BW2.out.trans (hb.mono BW2.out.size))
  clear hb
  go_wp2_with fail
  refine (known_ok w3).mono ?_
  rintro e w4 ⟨rfl, hb⟩
  go_wp2_with fail
  go_ret
  exact ⟨rfl, B.out.trans ((BW3.out.trans (hb.mono BW3.out.size)).mono B.out.size)⟩
end Go.Proofs.Ytcefcpplkcebjaa

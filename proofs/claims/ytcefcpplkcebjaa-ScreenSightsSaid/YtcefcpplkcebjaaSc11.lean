/-
  The walks of sees, Sees, Cutters, SameInts of the reference and of the law's Long. No condition.
-/
import Derived.Test.YtcefcpplkcebjaaSc10
namespace Go.Proofs.Ytcefcpplkcebjaa
open Go.RowKit
set_option linter.unusedVariables false

theorem rarg2 (a b : Pt) (w : World) : Rd (w.alloc (.cells #[.int .i64 a.x, .int .i64 a.y, .int .i64 b.x, .int .i64 b.y] 23)) (w.alloc (.cells #[.int .i64 a.x, .int .i64 a.y, .int .i64 b.x, .int .i64 b.y] 23)).heap.size (some ⟨w.heap.size, 0, none⟩) ([a, b].flatMap Pt.cells) := Rd.lit w ([a, b].flatMap Pt.cells) 23
theorem looked2 (A : Option Addr) (c : Nat) (l : List Sg) (a b : Pt) (w : World) (hr : Rd w w.heap.size A (l.flatMap Sg.cells)) (hn : l.length ≤ 9223372036854775807) :
    Calls Try.prog 56 #[.slice A l.length c, .slice none 0 0, .slice (some ⟨w.heap.size, 0, none⟩) 2 2] (w.alloc (.cells #[.int .i64 a.x, .int .i64 a.y, .int .i64 b.x, .int .i64 b.y] 23)) fun e w' => e = .returned (.int .i64 (sightE l a b)) ∧ Below w.heap.size w w' := by
  have hb0 : Below w.heap.size w (w.alloc (.cells #[.int .i64 a.x, .int .i64 a.y, .int .i64 b.x, .int .i64 b.y] 23)) := (Below.refl _ _).alloc (Nat.le_refl _) _
  have := looked_any A none (some ⟨w.heap.size, 0, none⟩) c 0 2 l [] [a, b] 0 2 (w.alloc (.cells #[.int .i64 a.x, .int .i64 a.y, .int .i64 b.x, .int .i64 b.y] 23)) rfl rfl ((hr.below hb0 (Nat.le_refl _)).more (by simp)) (.inl rfl) (rarg2 a b w) hn (by decide) (by decide)
  rw [look_sight] at this
  exact this.mono fun _ _ ⟨he, hb⟩ => ⟨he, hb0.trans (hb.mono (by simp))⟩
set_option maxHeartbeats 400000 in
theorem rsees_any (A : Option Addr) (c : Nat) (l : List Sg) (a b : Pt) (w : World) (hr : Rd w w.heap.size A (l.flatMap Sg.cells)) (hn : l.length ≤ 1000) (hl : ∀ s ∈ l, okP s.a = true ∧ okP s.b = true) (ha : okP a = true) (hb : okP b = true) :
    Calls Try.prog 57 #[.slice A l.length c, a.v, b.v] w fun e w' => e = .returned (.bool (seesB l a b)) ∧ Below w.heap.size w w' := by
  have HR := Lib.hid hr
  have HC := Lib.hid (fun w h => rcutters_any A c l a b w h hn hl ha hb)
  have HS := Lib.hid (sees_cut l a b)
  have HLe := Lib.hid (cutK_le l a b l.length)
  clear hr hl ha hb
  obtain ⟨W, hW⟩ : ∃ W, ((w.alloc (.cells #[.int .i64 a.x, .int .i64 a.y] 23)).alloc (.cells #[.int .i64 b.x, .int .i64 b.y] 23)) = W := ⟨_, rfl⟩
  have F := two_box w (.int .i64 a.x) (.int .i64 a.y) (.int .i64 b.x) (.int .i64 b.y) 23
  rw [hW] at F
  obtain ⟨h0, h1, h2, h3, hz, hb0⟩ := F
  have B := Lib.hid hb0
  have RW := Lib.hid ((HR.out.below hb0 (Nat.le_refl _)).more hb0.size)
  clear hb0 hz
  unfold Pt.v at *
  go_enter Try.func57, Try.ntmps57
  go_wp2_with fail
  refine (HC.out W RW.out).mono ?_
  rintro e w1 ⟨A1, c1, rfl, _, hb⟩
  have B1 := Lib.hid (B.out.trans (hb.mono B.out.size))
  clear hb
  have hlen := HLe.out
  obtain ⟨z, hz⟩ : ∃ z, (cutL l a b).length = z := ⟨_, rfl⟩
  have HZ := Lib.hid hz
  rw [hz]
  have hzl : z ≤ 1000 := by unfold cutL at hz; omega
  clear hz hlen
  go_wp2_with fail
  go_ret
  refine ⟨?_, B1.out⟩
  rw [HS.out, HZ.out]
  by_cases h : z = 0
  · subst h; rfl
  · have h1 : ((z : Int) == 0) = false := by simp; omega
    have h2 : decide (z = 0) = false := by simp; omega
    show Ending.returned (Value.bool _) = _
    rw [h2]
    simp [h]
set_option maxHeartbeats 400000 in
theorem rSees_any (A : Option Addr) (c : Nat) (l : List Sg) (a b : Pt) (w : World) (hr : Rd w w.heap.size A (l.flatMap Sg.cells)) (hn : l.length ≤ 1000) :
    Calls Try.prog 20 #[.slice A l.length c, a.v, b.v] w fun e w' => e = .returned (.tuple #[.bool (seesV l a b), .int .i64 (sightE l a b)]) ∧ Below w.heap.size w w' := by
  have HR := Lib.hid hr
  have HV := Lib.hid (fun w h => looked2 A c l a b w h (by omega))
  clear hr
  unfold seesV
  have HP := Lib.hid (fun w h (h0 : sightE l a b = 0) => rsees_any A c l a b w h hn (pts_of (sight_zero h0).1) (sight_zero h0).2.1 (sight_zero h0).2.2)
  generalize seesB l a b = S at *
  generalize sightE l a b = E at *
  obtain ⟨W, hW⟩ : ∃ W, ((w.alloc (.cells #[.int .i64 a.x, .int .i64 a.y] 23)).alloc (.cells #[.int .i64 b.x, .int .i64 b.y] 23)) = W := ⟨_, rfl⟩
  have F := two_box w (.int .i64 a.x) (.int .i64 a.y) (.int .i64 b.x) (.int .i64 b.y) 23
  rw [hW] at F
  obtain ⟨h0, h1, h2, h3, hz, hb0⟩ := F
  have B := Lib.hid hb0
  have N4 := Lib.hid hz
  have F4 := Lib.hid (And.intro h0 (And.intro h1 (And.intro h2 h3)))
  have RW := Lib.hid ((HR.out.below hb0 (Nat.le_refl _)).more hb0.size)
  clear hb0 hz
  unfold Pt.v at *
  by_cases hv : E = 0
  · subst hv
    rw [if_pos rfl]
    have HQ := Lib.hid (fun w h => HP.out w h rfl)
    go_enter Try.func20, Try.ntmps20
    go_wp2_with fail
    refine (HV.out W RW.out).mono ?_
    rintro e w1 ⟨rfl, hb⟩
    have k := fun b o (h : b < W.heap.size) => hb.cell (p := ⟨b, o, none⟩) h
    have n4 := N4.out
    have e0 := (k _ _ (by omega)).trans F4.out.1
    have e1 := (k _ _ (by omega)).trans F4.out.2.1
    have e2 := (k _ _ (by omega)).trans F4.out.2.2.1
    have e3 := (k _ _ (by omega)).trans F4.out.2.2.2
    have B1 := Lib.hid (B.out.trans (hb.mono B.out.size))
    have R1 := Lib.hid ((HR.out.below B1.out (Nat.le_refl _)).more B1.out.size)
    clear hb k n4 hW h0 h1 h2 h3
    go_wp2_with fail
    refine (HQ.out w1 R1.out).mono ?_
    rintro e w2 ⟨rfl, hb⟩
    go_wp2_with fail
    go_ret2
    exact ⟨rfl, B1.out.trans (hb.mono B1.out.size)⟩
  · rw [if_neg hv]
    have hE : (E == 0) = false := by simpa using hv
    have hE' : (E != 0) = true := by simpa using hv
    clear hv
    go_enter Try.func20, Try.ntmps20
    go_wp2_with fail
    refine (HV.out W RW.out).mono ?_
    rintro e w1 ⟨rfl, hb⟩
    go_wp2_with fail
    go_ret2
    exact ⟨rfl, B.out.trans (hb.mono B.out.size)⟩
set_option maxHeartbeats 400000 in
theorem rCutters_any (A : Option Addr) (c : Nat) (l : List Sg) (a b : Pt) (w : World) (hr : Rd w w.heap.size A (l.flatMap Sg.cells)) (hn : l.length ≤ 1000) :
    Calls Try.prog 22 #[.slice A l.length c, a.v, b.v] w (MadeE w (cutV l a b) (sightE l a b)) := by
  have HR := Lib.hid hr
  have HV := Lib.hid (fun w h => looked2 A c l a b w h (by omega))
  clear hr
  unfold cutV
  have HP := Lib.hid (fun w h (h0 : sightE l a b = 0) => rcutters_any A c l a b w h hn (pts_of (sight_zero h0).1) (sight_zero h0).2.1 (sight_zero h0).2.2)
  generalize cutL l a b = S at *
  generalize sightE l a b = E at *
  obtain ⟨W, hW⟩ : ∃ W, ((w.alloc (.cells #[.int .i64 a.x, .int .i64 a.y] 23)).alloc (.cells #[.int .i64 b.x, .int .i64 b.y] 23)) = W := ⟨_, rfl⟩
  have F := two_box w (.int .i64 a.x) (.int .i64 a.y) (.int .i64 b.x) (.int .i64 b.y) 23
  rw [hW] at F
  obtain ⟨h0, h1, h2, h3, hz, hb0⟩ := F
  have B := Lib.hid hb0
  have N4 := Lib.hid hz
  have F4 := Lib.hid (And.intro h0 (And.intro h1 (And.intro h2 h3)))
  have RW := Lib.hid ((HR.out.below hb0 (Nat.le_refl _)).more hb0.size)
  clear hb0 hz
  unfold Pt.v at *
  by_cases hv : E = 0
  · subst hv
    rw [if_pos rfl]
    have HQ := Lib.hid (fun w h => HP.out w h rfl)
    go_enter Try.func22, Try.ntmps22
    go_wp2_with fail
    refine (HV.out W RW.out).mono ?_
    rintro e w1 ⟨rfl, hb⟩
    have k := fun b o (h : b < W.heap.size) => hb.cell (p := ⟨b, o, none⟩) h
    have n4 := N4.out
    have e0 := (k _ _ (by omega)).trans F4.out.1
    have e1 := (k _ _ (by omega)).trans F4.out.2.1
    have e2 := (k _ _ (by omega)).trans F4.out.2.2.1
    have e3 := (k _ _ (by omega)).trans F4.out.2.2.2
    have B1 := Lib.hid (B.out.trans (hb.mono B.out.size))
    have R1 := Lib.hid ((HR.out.below B1.out (Nat.le_refl _)).more B1.out.size)
    clear hb k n4 hW h0 h1 h2 h3
    go_wp2_with fail
    refine (HQ.out w1 R1.out).mono ?_
    rintro e w2 ⟨A2, c2, rfl, hr2, hb⟩
    have R2 := Lib.hid hr2
    clear hr2
    go_wp2_with fail
    go_ret2
    exact ⟨A2, c2, rfl, R2.out, B1.out.trans (hb.mono B1.out.size)⟩
  · rw [if_neg hv]
    have hE : (E == 0) = false := by simpa using hv
    have hE' : (E != 0) = true := by simpa using hv
    clear hv
    go_enter Try.func22, Try.ntmps22
    go_wp2_with fail
    refine (HV.out W RW.out).mono ?_
    rintro e w1 ⟨rfl, hb⟩
    go_wp2_with fail
    go_ret2
    exact ⟨none, 0, rfl, .inl rfl, B.out.trans (hb.mono B.out.size)⟩
/-- Two lists that are the same: the answer is true. -/
theorem SameInts_same (A1 A2 : Option Addr) (c1 c2 : Nat) (l : List Int) (n1 n2 : Nat) (w : World) (hl1 : l.length = n1) (hl2 : l.length = n2) (hr1 : Rd w w.heap.size A1 (ints l)) (hr2 : Rd w w.heap.size A2 (ints l)) (hn : n1 ≤ 1000) :
    Calls Try.prog 25 #[.slice A1 n1 c1, .slice A2 n2 c2] w fun e w' => e = .returned (.bool true) ∧ ∃ n, w' = w.drewN n := by
  subst hl1
  subst hl2
  have R1 := Lib.hid hr1
  have R2 := Lib.hid hr2
  clear hr1 hr2
  go_enter Try.func25, Try.ntmps25
  go_wp2_with fail
  go_loopw [5] (fun i wr => ∃ k : Nat, k ≤ l.length ∧ i = .int .i64 k ∧ ∃ m, wr = w.drewN m) (fun i _ => l.length - (intOf i).toNat)
  case atStart => exact ⟨0, by omega, rfl, 0, rfl⟩
  case round =>
    obtain ⟨k, hk, rfl, m, rfl⟩ := hrel
    by_cases hlt : k < l.length
    · obtain ⟨b, o, d, rfl, hd, hc⟩ := R1.out.int k hlt
      obtain ⟨b', o', d', rfl, hd', hc'⟩ := R2.out.int k hlt
      have hdd : d' = d := by
        have := hd.out
        rw [hd'.out] at this
        exact Option.some.inj this
      subst hdd
      go_wp2_with fail
      go_quiet (fail)
      go_wp2
      go_roundw
      case rel => exact ⟨k + 1, by omega, by go_num, _, rfl⟩
      case measure => simp [intOf]; omega
    · have hks : k = l.length := by omega
      have HK := Lib.hid hks
      clear hks
      go_wp2_with fail
      go_ret
      exact ⟨rfl, _, rfl⟩
theorem Long_nil (A : Option Addr) (c : Nat) (n : Nat) (b : Bool) (w : World) (hn : n ≤ 9223372036854775807) (h : decide (100 < n) = b) :
    Calls Try.prog 18 #[.slice A n c, .slice none 0 0] w fun e w' => e = .returned (.bool b) ∧ w = w' := by
  cases b
  · have h1 : ¬ (100 : Int) < (n : Int) := by simp at h; omega
    clear h
    go_enter Try.func18, Try.ntmps18
    go_wp2_with fail
    go_ret
    exact ⟨rfl, rfl⟩
  · have h1 : (100 : Int) < (n : Int) := by simp at h; omega
    clear h
    go_enter Try.func18, Try.ntmps18
    go_wp2_with fail
    go_ret
    exact ⟨rfl, rfl⟩
end Go.Proofs.Ytcefcpplkcebjaa

/-
  The walks of Seers, Hidden of the reference; of the law ScreenSeers. No condition.
-/
import Derived.Test.YtcefcpplkcebjaaSc14
namespace Go.Proofs.Ytcefcpplkcebjaa
open Go.RowKit
set_option linter.unusedVariables false

theorem looked1 (A1 A2 : Option Addr) (c1 c2 : Nat) (l : List Sg) (eyes : List Pt) (p : Pt) (w : World) (hr1 : Rd w w.heap.size A1 (l.flatMap Sg.cells)) (hr2 : Rd w w.heap.size A2 (eyes.flatMap Pt.cells)) (hn1 : l.length ≤ 9223372036854775807) (hn2 : eyes.length ≤ 9223372036854775807) :
    Calls Try.prog 56 #[.slice A1 l.length c1, .slice A2 eyes.length c2, .slice (some ⟨w.heap.size, 0, none⟩) 1 1] (w.alloc (.cells #[.int .i64 p.x, .int .i64 p.y] 23)) fun e w' => e = .returned (.int .i64 (lookE l eyes [p])) ∧ Below w.heap.size w w' := by
  have hb0 : Below w.heap.size w (w.alloc (.cells #[.int .i64 p.x, .int .i64 p.y] 23)) := (Below.refl _ _).alloc (Nat.le_refl _) _
  have := looked_any A1 A2 (some ⟨w.heap.size, 0, none⟩) c1 c2 1 l eyes [p] eyes.length 1 (w.alloc (.cells #[.int .i64 p.x, .int .i64 p.y] 23)) rfl rfl ((hr1.below hb0 (Nat.le_refl _)).more (by simp)) ((hr2.below hb0 (Nat.le_refl _)).more (by simp)) (Rd.lit w ([p].flatMap Pt.cells) 23) hn1 hn2 (by decide)
  exact this.mono fun _ _ ⟨he, hb⟩ => ⟨he, hb0.trans (hb.mono (by simp))⟩
set_option maxHeartbeats 400000 in
theorem rSeers_any (A1 A2 : Option Addr) (c1 c2 : Nat) (l : List Sg) (eyes : List Pt) (p : Pt) (w : World) (hr1 : Rd w w.heap.size A1 (l.flatMap Sg.cells)) (hr2 : Rd w w.heap.size A2 (eyes.flatMap Pt.cells)) (hn1 : l.length ≤ 1000) (hn2 : eyes.length ≤ 1000) :
    Calls Try.prog 27 #[.slice A1 l.length c1, .slice A2 eyes.length c2, p.v] w (MadeE w (seerV l eyes p) (lookE l eyes [p])) := by
  have R1 := Lib.hid hr1
  have R2 := Lib.hid hr2
  have HV := Lib.hid (fun w h g => looked1 A1 A2 c1 c2 l eyes p w h g (by omega) (by omega))
  clear hr1 hr2
  unfold seerV
  have HP := Lib.hid (fun w h g (h0 : lookE l eyes [p] = 0) => rseers_any A1 A2 c1 c2 l eyes p w h g hn1 hn2 (pts_of (look_zero h0).1) (look_zero h0).2.2.1 (look_zero h0).2.2.2)
  generalize seerL l eyes p = S at *
  generalize lookE l eyes [p] = E at *
  obtain ⟨W, hW, h0, h1, hs, hb0⟩ := one_pt w (.int .i64 p.x) (.int .i64 p.y) 23
  have F := Lib.hid (And.intro h0 (And.intro h1 hs))
  have B := Lib.hid hb0
  have Q1 := Lib.hid ((R1.out.below hb0 (Nat.le_refl _)).more hb0.size)
  have Q2 := Lib.hid ((R2.out.below hb0 (Nat.le_refl _)).more hb0.size)
  clear hb0 hs
  unfold Pt.v at *
  by_cases hv : E = 0
  · subst hv
    rw [if_pos rfl]
    have HQ := Lib.hid (fun w h g => HP.out w h g rfl)
    go_enter Try.func27, Try.ntmps27
    go_wp2_with fail
    refine (HV.out W Q1.out Q2.out).mono ?_
    rintro e w1 ⟨rfl, hb⟩
    clear hW h0 h1
    obtain ⟨h0, h1⟩ := pt_keep F.out hb
    have B1 := Lib.hid (B.out.trans (hb.mono B.out.size))
    have P1 := Lib.hid ((R1.out.below B1.out (Nat.le_refl _)).more B1.out.size)
    have P2 := Lib.hid ((R2.out.below B1.out (Nat.le_refl _)).more B1.out.size)
    clear hb
    go_wp2_with fail
    refine (HQ.out w1 P1.out P2.out).mono ?_
    rintro e w2 ⟨A9, c9, rfl, hr9, hb⟩
    have R9 := Lib.hid hr9
    clear hr9
    go_wp2_with fail
    go_ret2
    exact ⟨A9, c9, rfl, R9.out, B1.out.trans (hb.mono B1.out.size)⟩
  · rw [if_neg hv]
    have hE : (E == 0) = false := by simpa using hv
    have hE' : (E != 0) = true := by simpa using hv
    clear hv
    go_enter Try.func27, Try.ntmps27
    go_wp2_with fail
    refine (HV.out W Q1.out Q2.out).mono ?_
    rintro e w1 ⟨rfl, hb⟩
    go_wp2_with fail
    go_ret2
    exact ⟨none, 0, rfl, .inl rfl, B.out.trans (hb.mono B.out.size)⟩
set_option maxHeartbeats 400000 in
theorem rHidden_any (A1 A2 : Option Addr) (c1 c2 : Nat) (l : List Sg) (eyes : List Pt) (p : Pt) (w : World) (hr1 : Rd w w.heap.size A1 (l.flatMap Sg.cells)) (hr2 : Rd w w.heap.size A2 (eyes.flatMap Pt.cells)) (hn1 : l.length ≤ 1000) (hn2 : eyes.length ≤ 1000) :
    Calls Try.prog 29 #[.slice A1 l.length c1, .slice A2 eyes.length c2, p.v] w fun e w' => e = .returned (.tuple #[.bool (hidV l eyes p), .int .i64 (lookE l eyes [p])]) ∧ Below w.heap.size w w' := by
  have R1 := Lib.hid hr1
  have R2 := Lib.hid hr2
  have HV := Lib.hid (fun w h g => looked1 A1 A2 c1 c2 l eyes p w h g (by omega) (by omega))
  clear hr1 hr2
  unfold hidV hidB
  have HP := Lib.hid (fun w h g (h0 : lookE l eyes [p] = 0) => rseers_any A1 A2 c1 c2 l eyes p w h g hn1 hn2 (pts_of (look_zero h0).1) (look_zero h0).2.2.1 (look_zero h0).2.2.2)
  have HLe := Lib.hid (idx_le (eyeAt l eyes p) eyes.length)
  have HSe := Lib.hid (show seerL l eyes p = idxK (eyeAt l eyes p) eyes.length from rfl)
  have hz : (seerL l eyes p).length ≤ 1000 := by have := HLe.out; rw [HSe.out]; omega
  clear HLe HSe
  generalize seerL l eyes p = S at *
  generalize lookE l eyes [p] = E at *
  obtain ⟨W, hW, h0, h1, hs, hb0⟩ := one_pt w (.int .i64 p.x) (.int .i64 p.y) 23
  have F := Lib.hid (And.intro h0 (And.intro h1 hs))
  have B := Lib.hid hb0
  have Q1 := Lib.hid ((R1.out.below hb0 (Nat.le_refl _)).more hb0.size)
  have Q2 := Lib.hid ((R2.out.below hb0 (Nat.le_refl _)).more hb0.size)
  clear hb0 hs
  unfold Pt.v at *
  by_cases hv : E = 0
  · subst hv
    rw [if_pos rfl]
    have HQ := Lib.hid (fun w h g => HP.out w h g rfl)
    obtain ⟨z, hzz⟩ : ∃ z, S.length = z := ⟨_, rfl⟩
    have HZ := Lib.hid hzz
    rw [hzz] at hz ⊢
    clear hzz
    go_enter Try.func29, Try.ntmps29
    go_wp2_with fail
    refine (HV.out W Q1.out Q2.out).mono ?_
    rintro e w1 ⟨rfl, hb⟩
    clear hW h0 h1
    obtain ⟨h0, h1⟩ := pt_keep F.out hb
    have B1 := Lib.hid (B.out.trans (hb.mono B.out.size))
    have P1 := Lib.hid ((R1.out.below B1.out (Nat.le_refl _)).more B1.out.size)
    have P2 := Lib.hid ((R2.out.below B1.out (Nat.le_refl _)).more B1.out.size)
    clear hb
    go_wp2_with fail
    refine (HQ.out w1 P1.out P2.out).mono ?_
    rintro e w2 ⟨A9, c9, rfl, _, hb⟩
    rw [HZ.out]
    go_wp2_with fail
    go_ret2
    refine ⟨?_, B1.out.trans (hb.mono B1.out.size)⟩
    by_cases h : z = 0
    · subst h; rfl
    · have h2 : decide (z = 0) = false := by simp; omega
      rw [h2]
      have h3 : ((z : Int) == 0) = false := by simp; omega
      simp [h]
  · rw [if_neg hv]
    have hE : (E == 0) = false := by simpa using hv
    have hE' : (E != 0) = true := by simpa using hv
    clear hv
    go_enter Try.func29, Try.ntmps29
    go_wp2_with fail
    refine (HV.out W Q1.out Q2.out).mono ?_
    rintro e w1 ⟨rfl, hb⟩
    go_wp2_with fail
    go_ret2
    exact ⟨rfl, B.out.trans (hb.mono B.out.size)⟩
theorem Long_any (A1 A2 : Option Addr) (c1 c2 n m : Nat) (b : Bool) (w : World) (hn : n ≤ 9223372036854775807) (hm : m ≤ 9223372036854775807) (h : (decide (100 < n) || decide (100 < m)) = b) :
    Calls Try.prog 18 #[.slice A1 n c1, .slice A2 m c2] w fun e w' => e = .returned (.bool b) ∧ w = w' := by
  by_cases h0 : 100 < n
  · have h1 : (100 : Int) < (n : Int) := by omega
    have hb : b = true := by rw [← h]; simp [h0]
    subst hb
    clear h h0
    go_enter Try.func18, Try.ntmps18
    go_wp2_with fail
    go_ret
    exact ⟨rfl, rfl⟩
  · have h1 : ¬ (100 : Int) < (n : Int) := by omega
    by_cases h2 : 100 < m
    · have h3 : (100 : Int) < (m : Int) := by omega
      have hb : b = true := by rw [← h]; simp [h2]
      subst hb
      clear h h0 h2
      go_enter Try.func18, Try.ntmps18
      go_wp2_with fail
      go_ret
      exact ⟨rfl, rfl⟩
    · have h3 : ¬ (100 : Int) < (m : Int) := by omega
      have hb : b = false := by rw [← h]; simp [h0, h2]
      subst hb
      clear h h0 h2
      go_enter Try.func18, Try.ntmps18
      go_wp2_with fail
      go_ret
      exact ⟨rfl, rfl⟩
set_option maxRecDepth 100000 in
set_option maxHeartbeats 1600000 in
theorem ScreenSeers_walk (A1 A2 : Option Addr) (c1 c2 : Nat) (l : List Sg) (eyes : List Pt) (p : Pt) (w : World) (hr1 : Rd w w.heap.size A1 (l.flatMap Sg.cells)) (hr2 : Rd w w.heap.size A2 (eyes.flatMap Pt.cells)) (hc1 : l.length ≤ c1) (hm1 : c1 ≤ maxLen) (hc2 : eyes.length ≤ c2) (hm2 : c2 ≤ maxLen) :
    Calls Try.prog 5 #[.slice A1 l.length c1, .slice A2 eyes.length c2, p.v] w fun e w' => e = .returned (.bool true) ∧ Below w.heap.size w w' := by
  have R1 := Lib.hid hr1
  have R2 := Lib.hid hr2
  clear hr1 hr2
  unfold maxLen at hm1 hm2
  obtain ⟨W, hW, h0, h1, hs, hb0⟩ := one_pt w (.int .i64 p.x) (.int .i64 p.y) 23
  have F := Lib.hid (And.intro h0 (And.intro h1 hs))
  have B := Lib.hid hb0
  have P1 := Lib.hid ((R1.out.below hb0 (Nat.le_refl _)).more hb0.size)
  have P2 := Lib.hid ((R2.out.below hb0 (Nat.le_refl _)).more hb0.size)
  clear hb0 hs
  cases hlong : (decide (100 < l.length) || decide (100 < eyes.length))
  · have HL := Lib.hid (fun w => Long_any A1 A2 c1 c2 l.length eyes.length false w (by omega) (by omega) hlong)
    simp only [Bool.or_eq_false_iff, decide_eq_false_iff_not] at hlong
    have S1 := Lib.hid (fun w h g => Seers_any A1 A2 c1 c2 l eyes p w h g (by omega) (by omega))
    have S2 := Lib.hid (fun w h g => rSeers_any A1 A2 c1 c2 l eyes p w h g (by omega) (by omega))
    have D1 := Lib.hid (fun w h g => Hidden_any A1 A2 c1 c2 l eyes p w h g (by omega) (by omega))
    have D2 := Lib.hid (fun w h g => rHidden_any A1 A2 c1 c2 l eyes p w h g (by omega) (by omega))
    have HCL := Lib.hid (show (seerV l eyes p).length ≤ 1000 by
      unfold seerV
      split
      · have := idx_le (eyeAt l eyes p) eyes.length
        unfold seerL
        omega
      · simp)
    clear hlong
    generalize lookE l eyes [p] = E at *
    generalize seerV l eyes p = K at *
    generalize hidV l eyes p = v at *
    unfold Pt.v at *
    go_enter Try.func5, Try.ntmps5
    go_wp2_with fail
    refine (HL.out W).mono ?_
    rintro e w' ⟨rfl, rfl⟩
    go_wp2_with fail
    clear hW h0 h1
    refine (S1.out W P1.out P2.out).mono ?_
    rintro e w1 ⟨A3, c3, rfl, hr3, hb⟩
    have K3 := Lib.hid hr3
    have B1 := Lib.hid hb
    obtain ⟨h0, h1⟩ := pt_keep F.out hb
    have P11 := Lib.hid ((P1.out.below hb (Nat.le_refl _)).more hb.size)
    have P12 := Lib.hid ((P2.out.below hb (Nat.le_refl _)).more hb.size)
    clear hb hr3
    go_wp2_with fail
    clear h0 h1
    refine (S2.out w1 P11.out P12.out).mono ?_
    rintro e w2 ⟨A4, c4, rfl, hr4, hb⟩
    have K4 := Lib.hid hr4
    have L4 := Lib.hid ((K3.out.below hb (Nat.le_refl _)).more hb.size)
    have B2 := Lib.hid (B1.out.trans (hb.mono B1.out.size))
    clear hb hr4
    obtain ⟨h0, h1⟩ := pt_keep F.out B2.out
    have P21 := Lib.hid ((P1.out.below B2.out (Nat.le_refl _)).more B2.out.size)
    have P22 := Lib.hid ((P2.out.below B2.out (Nat.le_refl _)).more B2.out.size)
    go_wp2_with fail
    clear h0 h1
    refine (D1.out w2 P21.out P22.out).mono ?_
    rintro e w3 ⟨rfl, hb⟩
    have K5 := Lib.hid ((K4.out.below hb (Nat.le_refl _)).more hb.size)
    have L5 := Lib.hid ((L4.out.below hb (Nat.le_refl _)).more hb.size)
    have B3 := Lib.hid (B2.out.trans (hb.mono B2.out.size))
    clear hb
    obtain ⟨h0, h1⟩ := pt_keep F.out B3.out
    have P31 := Lib.hid ((P1.out.below B3.out (Nat.le_refl _)).more B3.out.size)
    have P32 := Lib.hid ((P2.out.below B3.out (Nat.le_refl _)).more B3.out.size)
    go_wp2_with fail
    clear h0 h1
    refine (D2.out w3 P31.out P32.out).mono ?_
    rintro e w4 ⟨rfl, hb⟩
    have K6 := Lib.hid ((K5.out.below hb (Nat.le_refl _)).more hb.size)
    have L6 := Lib.hid ((L5.out.below hb (Nat.le_refl _)).more hb.size)
    have B4 := Lib.hid (B3.out.trans (hb.mono B3.out.size))
    clear hb
    go_wp2_with fail
    refine (SameInts_same A3 A4 c3 c4 K _ _ w4 rfl rfl L6.out K6.out HCL.out).mono ?_
    rintro e w' ⟨rfl, m, rfl⟩
    go_wp2_with fail
    refine (known_ok (w4.drewN m)).mono ?_
    rintro e w8 ⟨rfl, hb⟩
    have B8 := Lib.hid (B4.out.trans (((below_drewN (Below.refl _ _) m).trans hb).mono B4.out.size))
    clear hb
    go_wp2_with fail
    go_ret
    exact ⟨rfl, B.out.trans (B8.out.mono B.out.size)⟩
  · have HL := Lib.hid (fun w => Long_any A1 A2 c1 c2 l.length eyes.length true w (by omega) (by omega) hlong)
    clear hlong h0 h1
    unfold Pt.v
    go_enter Try.func5, Try.ntmps5
    go_wp2_with fail
    refine (HL.out W).mono ?_
    rintro e w' ⟨rfl, rfl⟩
    go_wp2_with fail
    refine (known_ok W).mono ?_
    rintro e w1 ⟨rfl, hb⟩
    go_wp2_with fail
    go_ret
    exact ⟨rfl, B.out.trans (hb.mono B.out.size)⟩
end Go.Proofs.Ytcefcpplkcebjaa

/-
  The walks of looked, cutters, sees, Sees, Cutters of the reference. No condition.
-/
import Derived.Test.YtcefcpplkcebjaaSc9
namespace Go.Proofs.Ytcefcpplkcebjaa
open Go.RowKit
set_option linter.unusedVariables false

def lookE (l : List Sg) (eyes pts : List Pt) : Int := if valE l = 0 then (if 8 < eyes.length ∨ 16 < pts.length then 3 else tE (allP eyes && allP pts)) else valE l
theorem look_sight (l : List Sg) (a b : Pt) : lookE l [] [a, b] = sightE l a b := by
  unfold lookE sightE
  simp [allP]
set_option maxHeartbeats 400000 in
theorem looked_any (A1 A2 A3 : Option Addr) (c1 c2 c3 : Nat) (l : List Sg) (eyes pts : List Pt) (n2 n3 : Nat) (w : World) (h2 : eyes.length = n2) (h3 : pts.length = n3) (hr1 : Rd w w.heap.size A1 (l.flatMap Sg.cells)) (hr2 : Rd w w.heap.size A2 (eyes.flatMap Pt.cells)) (hr3 : Rd w w.heap.size A3 (pts.flatMap Pt.cells))
    (hn1 : l.length ≤ 9223372036854775807) (hn2 : n2 ≤ 9223372036854775807) (hn3 : n3 ≤ 9223372036854775807) :
    Calls Try.prog 56 #[.slice A1 l.length c1, .slice A2 n2 c2, .slice A3 n3 c3] w fun e w' => e = .returned (.int .i64 (lookE l eyes pts)) ∧ Below w.heap.size w w' := by
  have R1 := Lib.hid hr1
  have R2 := Lib.hid hr2
  have R3 := Lib.hid hr3
  have HV := Lib.hid (fun w h => rValidate_any A1 c1 l w h hn1)
  have HE := Lib.hid (fun w h => rarePoints_any A2 c2 eyes n2 w h2 h hn2)
  have HP := Lib.hid (fun w h => rarePoints_any A3 c3 pts n3 w h3 h hn3)
  clear hr1 hr2 hr3
  unfold lookE
  rw [h2, h3]
  clear h2 h3
  by_cases hv : valE l = 0
  · rw [if_pos hv]
    rw [hv] at HV
    clear hv
    generalize allP eyes = p at *
    generalize allP pts = q at *
    by_cases h8 : 8 < n2
    · rw [if_pos (.inl h8)]
      have h8' : (8 : Int) < (n2 : Int) := by omega
      clear h8
      go_enter Try.func56, Try.ntmps56
      go_wp2_with fail
      refine (HV.out w R1.out).mono ?_
      rintro e w1 ⟨rfl, hb⟩
      go_wp2_with fail
      go_ret
      exact ⟨rfl, hb⟩
    · have h8' : ¬ (8 : Int) < (n2 : Int) := by omega
      by_cases h16 : 16 < n3
      · rw [if_pos (.inr h16)]
        have h16' : (16 : Int) < (n3 : Int) := by omega
        clear h8 h16
        go_enter Try.func56, Try.ntmps56
        go_wp2_with fail
        refine (HV.out w R1.out).mono ?_
        rintro e w1 ⟨rfl, hb⟩
        go_wp2_with fail
        go_ret
        exact ⟨rfl, hb⟩
      · have h16' : ¬ (16 : Int) < (n3 : Int) := by omega
        rw [if_neg (fun h => h.elim h8 h16)]
        clear h8 h16
        unfold tE
        cases p
        · go_enter Try.func56, Try.ntmps56
          go_wp2_with fail
          refine (HV.out w R1.out).mono ?_
          rintro e w1 ⟨rfl, hb⟩
          have B1 := Lib.hid hb
          have Q2 := Lib.hid ((R2.out.below hb (Nat.le_refl _)).more hb.size)
          clear hb
          go_wp2_with fail
          refine (HE.out w1 Q2.out).mono ?_
          rintro e w2 ⟨rfl, hb⟩
          go_wp2_with fail
          go_ret
          exact ⟨rfl, B1.out.trans (hb.mono B1.out.size)⟩
        · cases q
          all_goals
            go_enter Try.func56, Try.ntmps56
            go_wp2_with fail
            refine (HV.out w R1.out).mono ?_
            rintro e w1 ⟨rfl, hb⟩
            have B1 := Lib.hid hb
            have Q2 := Lib.hid ((R2.out.below hb (Nat.le_refl _)).more hb.size)
            clear hb
            go_wp2_with fail
            refine (HE.out w1 Q2.out).mono ?_
            rintro e w2 ⟨rfl, hb⟩
            have B2 := Lib.hid (B1.out.trans (hb.mono B1.out.size))
            clear hb
            have Q3 := Lib.hid ((R3.out.below B2.out (Nat.le_refl _)).more B2.out.size)
            go_wp2_with fail
            refine (HP.out w2 Q3.out).mono ?_
            rintro e w3 ⟨rfl, hb⟩
            go_wp2_with fail
            go_ret
            exact ⟨rfl, B2.out.trans (hb.mono B2.out.size)⟩
  · rw [if_neg hv]
    generalize valE l = E at *
    have hE : (E == 0) = false := by simpa using hv
    have hE' : (E != 0) = true := by simpa using hv
    clear hv
    go_enter Try.func56, Try.ntmps56
    go_wp2_with fail
    refine (HV.out w R1.out).mono ?_
    rintro e w1 ⟨rfl, hb⟩
    go_wp2_with fail
    go_ret
    exact ⟨rfl, hb⟩
set_option maxRecDepth 4000 in
set_option maxHeartbeats 1000000 in
theorem rcutters_any (A : Option Addr) (c : Nat) (l : List Sg) (a b : Pt) (w : World) (hr : Rd w w.heap.size A (l.flatMap Sg.cells)) (hn : l.length ≤ 1000) (hl : ∀ s ∈ l, okP s.a = true ∧ okP s.b = true) (ha : okP a = true) (hb : okP b = true) :
    Calls Try.prog 59 #[.slice A l.length c, a.v, b.v] w (Made w (cutL l a b)) := by
  have HR := Lib.hid hr
  clear hr
  obtain ⟨W, hW⟩ : ∃ W, ((w.alloc (.cells #[.int .i64 a.x, .int .i64 a.y] 23)).alloc (.cells #[.int .i64 b.x, .int .i64 b.y] 23)) = W := ⟨_, rfl⟩
  have F := two_box w (.int .i64 a.x) (.int .i64 a.y) (.int .i64 b.x) (.int .i64 b.y) 23
  rw [hW] at F
  obtain ⟨h0, h1, h2, h3, hz, hb0⟩ := F
  have B := Lib.hid hb0
  have N4 := Lib.hid hz
  have F4 := Lib.hid (And.intro h0 (And.intro h1 (And.intro h2 h3)))
  clear hb0 hz h0 h1 h2 h3
  have HC := Lib.hid (fun (s : Sg) (hs : s ∈ l) w => rtouch_any a b s.a s.b w ha hb (hl s hs).1 (hl s hs).2)
  have HYe := Lib.hid (fun k s (hx : l[k]? = some s) h => cutK_yes (a := a) (b := b) hx h)
  have HNo := Lib.hid (fun k s (hx : l[k]? = some s) h => cutK_no (a := a) (b := b) hx h)
  have HLe := Lib.hid (fun k => cutK_le l a b k)
  clear ha hb hl
  obtain ⟨K, hK⟩ : ∃ K : Nat → List Int, cutK l a b = K := ⟨_, rfl⟩
  have HKK := Lib.hid hK
  rw [hK] at HYe HNo HLe
  obtain ⟨cutf, hcf⟩ : ∃ f : Sg → Bool, (fun s => s.cut a b) = f := ⟨_, rfl⟩
  have hcf' : ∀ s : Sg, s.cut a b = cutf s := fun s => congrFun hcf s
  have HCF := Lib.hid hcf'
  have HTP := Lib.hid (show ∀ s : Sg, touchB a b s.a s.b = cutf s from fun s => by rw [touch_pair]; exact hcf' s)
  clear hcf hcf' hK
  obtain ⟨ax, ay⟩ := a
  obtain ⟨bx, bz⟩ := b
  unfold Pt.v at *
  simp only at *
  go_enter Try.func59, Try.ntmps59
  go_wp2_with fail
  clear hW
  go_loopw [7, 8] (fun v i wr => ∃ (k : Nat) (A9 : Option Addr) (c9 : Nat), k ≤ l.length ∧ i = .int .i64 k ∧ v = .slice A9 (K k).length c9 ∧ wr.ownsRow W.heap.size 3 1 v (K k).length (ints (K k)) ∧ Below W.heap.size W wr) (fun _ i _ => l.length - (intOf i).toNat)
  case atStart => exact ⟨0, none, 0, by omega, rfl, by rw [← HKK.out]; rfl, by rw [← HKK.out]; exact World.ownsRow_nil _ _ _ _, Below.refl _ _⟩
  case round =>
    obtain ⟨k, A9, c9, hk, rfl, rfl, hown, hb⟩ := hrel
    have O := Lib.hid hown
    have BW := Lib.hid hb
    have BB := Lib.hid (B.out.trans (hb.mono B.out.size))
    have kk := fun b o (h : b < W.heap.size) => hb.cell (p := ⟨b, o, none⟩) h
    have n4 := N4.out
    have e0 := (kk _ _ (by omega)).trans F4.out.1
    have e1 := (kk _ _ (by omega)).trans F4.out.2.1
    have e2 := (kk _ _ (by omega)).trans F4.out.2.2.1
    have e3 := (kk _ _ (by omega)).trans F4.out.2.2.2
    clear hown hb kk n4
    by_cases hlt : k < l.length
    · obtain ⟨b, o, ⟨⟨x0, y0⟩, ⟨x1, y1⟩⟩, rfl, hx, c0, c1, c2, c3⟩ := (HR.out.below BB.out (Nat.le_refl _)).sg k hlt
      simp only at c0 c1 c2 c3
      have HQ := Lib.hid (HC.out _ (List.mem_of_getElem? hx.out))
      rw [HTP.out] at HQ
      simp only at HQ
      have HQQ := Lib.hid (HCF.out ⟨⟨x0, y0⟩, ⟨x1, y1⟩⟩)
      have g0 := fun d os => cell_regrown c0 d os
      have g1 := fun d os => cell_regrown c1 d os
      have g2 := fun d os => cell_regrown c2 d os
      have g3 := fun d os => cell_regrown c3 d os
      have f0 := fun d os => cell_regrown e0 d os
      have f1 := fun d os => cell_regrown e1 d os
      have f2 := fun d os => cell_regrown e2 d os
      have f3 := fun d os => cell_regrown e3 d os
      obtain ⟨q, hq⟩ : ∃ q, cutf ⟨⟨x0, y0⟩, ⟨x1, y1⟩⟩ = q := ⟨_, rfl⟩
      rw [hq] at HQ
      have HG := Lib.hid hq
      clear hq
      cases q
      · go_wp2_with fail
        refine wp_region_quiet_below (by kernel_rfl) (by kernel_rfl) ?_
        repeat (go_big_quiet_step (with_reducible exact Calls.regrown_of (HQ.out _)))
        refine wpQuiet_nil ?_
        intro _ hw'
        obtain ⟨⟨dq, osq⟩, hw''⟩ := hw'
        subst hw''
        have B2 := Lib.hid (BW.out.trans ((below_regrown wr dq osq).mono BW.out.size))
        have O2 := Lib.hid (own_below O.out (below_regrown wr dq osq))
        have HX2 := Lib.hid (HNo.out k _ hx.out (by rw [HQQ.out]; exact HG.out))
        go_wp2_with fail
        go_roundw
        case rel => exact ⟨k + 1, A9, c9, by omega, by go_num, by rw [HX2.out], by rw [HX2.out]; exact O2.out, B2.out⟩
        case measure => simp [intOf]; omega
      · go_wp2_with fail
        refine wp_region_quiet_below (by kernel_rfl) (by kernel_rfl) ?_
        repeat (go_big_quiet_step (with_reducible exact Calls.regrown_of (HQ.out _)))
        refine wpQuiet_nil ?_
        intro _ hw'
        obtain ⟨⟨dq, osq⟩, hw''⟩ := hw'
        subst hw''
        have B2 := Lib.hid (BW.out.trans ((below_regrown wr dq osq).mono BW.out.size))
        have O2 := Lib.hid (own_below O.out (below_regrown wr dq osq))
        have HX2 := Lib.hid (HYe.out k _ hx.out (by rw [HQQ.out]; exact HG.out))
        have hle := HLe.out k
        clear g0 g1 g2 g3 f0 f1 f2 f3
        obtain ⟨w2, hw2⟩ : ∃ w2, Go.Sort.grow (redrawn wr dq) osq = w2 := ⟨_, rfl⟩
        rw [hw2] at B2 O2
        go_wp2_with (at_builtin; refine app eInt rfl _ _ rfl rfl (O2.out.alloc _) (B2.out.alloc B2.out.size _) (size_alloc' B2.out.size _) rfl (Rd.one w2 (.int .i64 k) 3 (Nat.lt_succ_self _)) (by simp) (ints_one [(k : Int)]) ((K k).length + 1) rfl (by omega) ?_; intro A4 c4 w4 o4 b4 _ _; have O4 := Lib.hid o4; have B4 := Lib.hid b4; clear o4 b4)
        go_roundw
        case rel => exact ⟨k + 1, A4, c4, by omega, by go_num, by rw [HX2.out, List.length_append]; rfl, by rw [HX2.out, List.length_append, ints_append]; exact O4.out, B4.out⟩
        case measure => simp [intOf]; omega
    · have hks : k = l.length := by omega
      have HK := Lib.hid hks
      clear hks
      go_wp2_with fail
      go_ret
      exact ⟨A9, c9, by rw [cutL, HKK.out, ← HK.out]; rfl, by have := Rd.of_own O.out; rw [cutL, HKK.out, ← HK.out]; exact this, BB.out⟩
end Go.Proofs.Ytcefcpplkcebjaa

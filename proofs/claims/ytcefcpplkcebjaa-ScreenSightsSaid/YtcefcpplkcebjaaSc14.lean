/-
  The walks of Seers, Hidden of package screen; of seers, Seers, Hidden of the reference; of the law ScreenSeers. No condition.
-/
import Derived.Test.YtcefcpplkcebjaaSc13
namespace Go.Proofs.Ytcefcpplkcebjaa
open Go.RowKit
set_option linter.unusedVariables false

def seerV (l : List Sg) (eyes : List Pt) (p : Pt) : List Int := if lookE l eyes [p] = 0 then seerL l eyes p else []
def hidV (l : List Sg) (eyes : List Pt) (p : Pt) : Bool := if lookE l eyes [p] = 0 then hidB l eyes p else false
theorem rd_grown {w : World} {A : Option Addr} {xs : List Value} (h : Rd w w.heap.size A xs) (d : Nat) (os : Array Obj) : Rd (Go.Sort.grow (redrawn w d) os) (Go.Sort.grow (redrawn w d) os).heap.size A xs :=
  (h.below (below_regrown w d os) (Nat.le_refl _)).more (below_regrown w d os).size
set_option maxRecDepth 4000 in
set_option maxHeartbeats 1000000 in
theorem Seers_any (A1 A2 : Option Addr) (c1 c2 : Nat) (l : List Sg) (eyes : List Pt) (p : Pt) (w : World) (hr1 : Rd w w.heap.size A1 (l.flatMap Sg.cells)) (hr2 : Rd w w.heap.size A2 (eyes.flatMap Pt.cells)) (hn1 : l.length ≤ 9223372036854775807) (hn2 : eyes.length ≤ 9223372036854775807) :
    Calls Try.prog 26 #[.slice A1 l.length c1, .slice A2 eyes.length c2, p.v] w (MadeE w (seerV l eyes p) (lookE l eyes [p])) := by
  have R1 := Lib.hid hr1
  have R2 := Lib.hid hr2
  have HV := Lib.hid (fun w h g => checkEyes_any A1 A2 c1 c2 l eyes p w h g hn1 hn2)
  clear hr1 hr2
  obtain ⟨W, hW, h0, h1, hs, hb0⟩ := one_pt w (.int .i64 p.x) (.int .i64 p.y) 23
  have F := Lib.hid (And.intro h0 (And.intro h1 hs))
  have B := Lib.hid hb0
  have Q1 := Lib.hid ((R1.out.below hb0 (Nat.le_refl _)).more hb0.size)
  have Q2 := Lib.hid ((R2.out.below hb0 (Nat.le_refl _)).more hb0.size)
  clear hb0 hs
  by_cases hv : lookE l eyes [p] = 0
  · obtain ⟨hval, hne, he, hp⟩ := look_zero hv
    have hl := pts_of hval
    have HS := Lib.hid (fun (e : Pt) (h : e ∈ eyes) w g => sees_any A1 c1 l e p w g hn1 hl (he e h) hp)
    have HE := Lib.hid (show seerV l eyes p = idxK (eyeAt l eyes p) eyes.length from if_pos hv)
    rw [hv] at HV ⊢
    have HEy := Lib.hid (fun i e (hx : eyes[i]? = some e) => eyeAt_is (l := l) (p := p) hx)
    clear hv hval he hp hl
    obtain ⟨S, hS⟩ : ∃ f : Pt → Bool, (fun e => seesB l e p) = f := ⟨_, rfl⟩
    have HSS := Lib.hid (show ∀ e : Pt, seesB l e p = S e from fun e => congrFun hS e)
    obtain ⟨f, hf⟩ : ∃ f, eyeAt l eyes p = f := ⟨_, rfl⟩
    rw [hf] at HEy HE
    have HYe := Lib.hid (fun k (h : f k = true) => idx_yes h)
    have HNo := Lib.hid (fun k (h : f k = false) => idx_no h)
    have HLe := Lib.hid (idx_le f)
    have HK0 := Lib.hid (show idxK f 0 = [] from rfl)
    clear hS hf
    generalize idxK f = K at *
    unfold Pt.v at *
    go_enter Try.func26, Try.ntmps26
    go_wp2_with fail
    refine (HV.out W Q1.out Q2.out).mono ?_
    rintro e w1 ⟨rfl, hb⟩
    have B1 := Lib.hid (B.out.trans (hb.mono B.out.size))
    clear hW h0 h1
    obtain ⟨h0, h1⟩ := pt_keep F.out hb
    have F1 := Lib.hid (And.intro h0 (And.intro h1 (Nat.lt_of_lt_of_le F.out.2.2 hb.size)))
    clear hb h0 h1
    go_wp2_with fail
    go_loopw [9, 21] (fun v i wr => ∃ (k : Nat) (A9 : Option Addr) (c9 : Nat), k ≤ eyes.length ∧ i = .int .i64 k ∧ v = .slice A9 (K k).length c9 ∧ wr.ownsRow w1.heap.size 3 1 v (K k).length (ints (K k)) ∧ Below w1.heap.size w1 wr) (fun _ i _ => eyes.length - (intOf i).toNat)
    case atStart => exact ⟨0, none, 0, by omega, rfl, by rw [HK0.out]; rfl, by rw [HK0.out]; exact World.ownsRow_nil _ _ _ _, Below.refl _ _⟩
    case round =>
      obtain ⟨k, A9, c9, hk, rfl, rfl, hown, hb⟩ := hrel
      have O := Lib.hid hown
      have BW := Lib.hid hb
      have BB := Lib.hid (B1.out.trans (hb.mono B1.out.size))
      obtain ⟨h0, h1⟩ := pt_keep F1.out hb
      have S1 : w.heap.size < wr.heap.size := Nat.lt_of_lt_of_le F1.out.2.2 hb.size
      clear hown hb
      by_cases hlt : k < eyes.length
      · obtain ⟨b, o, ⟨x0, y0⟩, rfl, hx, c0, c1⟩ := (R2.out.below BB.out (Nat.le_refl _)).pt k hlt
        simp only at c0 c1
        have HQ := Lib.hid (HS.out _ (List.mem_of_getElem? hx.out))
        have e0 := HSS.out ⟨x0, y0⟩
        rw [e0] at HQ
        have HG0 := Lib.hid ((HEy.out k _ hx.out).trans e0)
        have B3 := Lib.hid (BW.out.alloc BW.out.size (.cells #[.int .i64 x0, .int .i64 y0] 23))
        have BB3 := Lib.hid (B1.out.trans (B3.out.mono B1.out.size))
        have R3 := Lib.hid ((R1.out.below BB3.out (Nat.le_refl _)).more BB3.out.size)
        have O3 := Lib.hid (O.out.alloc (.cells #[.int .i64 x0, .int .i64 y0] 23))
        have hle := HLe.out k
        clear e0
        obtain ⟨q, hq⟩ : ∃ q, S ⟨x0, y0⟩ = q := ⟨_, rfl⟩
        rw [hq] at HQ HG0
        clear hq
        cases q
        · have HX2 := Lib.hid (HNo.out k HG0.out)
          go_wp2_with fail
          refine (HQ.out _ R3.out).mono ?_
          rintro e w2 ⟨rfl, hb⟩
          have B4 := Lib.hid (B3.out.trans (hb.mono B3.out.size))
          have O4 := Lib.hid (own_below O3.out hb)
          clear hb
          go_wp2_with fail
          go_roundw
          case rel => exact ⟨k + 1, A9, c9, by omega, by go_num, by rw [HX2.out], by rw [HX2.out]; exact O4.out, B4.out⟩
          case measure => simp [intOf]; omega
        · have HX2 := Lib.hid (HYe.out k HG0.out)
          go_wp2_with fail
          refine (HQ.out _ R3.out).mono ?_
          rintro e w2 ⟨rfl, hb⟩
          have B4 := Lib.hid (B3.out.trans (hb.mono B3.out.size))
          have O4 := Lib.hid (own_below O3.out hb)
          clear hb
          go_wp2_with (at_builtin; refine app eInt rfl _ _ rfl rfl (O4.out.alloc _) (B4.out.alloc B4.out.size _) (size_alloc' B4.out.size _) rfl (Rd.one w2 (.int .i64 k) 3 (Nat.lt_succ_self _)) (by simp) (ints_one [(k : Int)]) ((K k).length + 1) rfl (by omega) ?_; intro A5 c5 w5 o5 b5 _ _; have O5 := Lib.hid o5; have B5 := Lib.hid b5; clear o5 b5)
          go_roundw
          case rel => exact ⟨k + 1, A5, c5, by omega, by go_num, by rw [HX2.out, List.length_append]; rfl, by rw [HX2.out, List.length_append, ints_append]; exact O5.out, B5.out⟩
          case measure => simp [intOf]; omega
      · have hks : k = eyes.length := by omega
        have HK := Lib.hid hks
        clear hks
        go_wp2_with fail
        go_ret2
        exact ⟨A9, c9, by rw [HE.out, ← HK.out]; rfl, by have := Rd.of_own O.out; rw [HE.out, ← HK.out]; exact this, BB.out⟩
  · have hcv : seerV l eyes p = [] := if_neg hv
    rw [hcv]
    generalize lookE l eyes [p] = E at *
    have hE : (E == 0) = false := by simpa using hv
    have hE' : (E != 0) = true := by simpa using hv
    clear hv hcv
    unfold Pt.v at *
    go_enter Try.func26, Try.ntmps26
    go_wp2_with fail
    refine (HV.out W Q1.out Q2.out).mono ?_
    rintro e w1 ⟨rfl, hb⟩
    go_wp2_with fail
    go_ret2
    exact ⟨none, 0, rfl, .inl rfl, B.out.trans (hb.mono B.out.size)⟩
set_option maxRecDepth 4000 in
set_option maxHeartbeats 400000 in
theorem Hidden_any (A1 A2 : Option Addr) (c1 c2 : Nat) (l : List Sg) (eyes : List Pt) (p : Pt) (w : World) (hr1 : Rd w w.heap.size A1 (l.flatMap Sg.cells)) (hr2 : Rd w w.heap.size A2 (eyes.flatMap Pt.cells)) (hn1 : l.length ≤ 9223372036854775807) (hn2 : eyes.length ≤ 9223372036854775807) :
    Calls Try.prog 28 #[.slice A1 l.length c1, .slice A2 eyes.length c2, p.v] w fun e w' => e = .returned (.tuple #[.bool (hidV l eyes p), .int .i64 (lookE l eyes [p])]) ∧ Below w.heap.size w w' := by
  have R1 := Lib.hid hr1
  have R2 := Lib.hid hr2
  have HV := Lib.hid (fun w h g => checkEyes_any A1 A2 c1 c2 l eyes p w h g hn1 hn2)
  clear hr1 hr2
  unfold hidV
  have HP := Lib.hid (fun w h g (h0 : lookE l eyes [p] = 0) => isHidden_any A1 A2 c1 c2 l eyes p w h g hn1 hn2 (pts_of (look_zero h0).1) (look_zero h0).2.2.1 (look_zero h0).2.2.2)
  generalize hidB l eyes p = S at *
  generalize lookE l eyes [p] = E at *
  obtain ⟨W, hW, h0, h1, hs, hb0⟩ := one_pt w (.int .i64 p.x) (.int .i64 p.y) 23
  have F := Lib.hid (And.intro h0 (And.intro h1 hs))
  have B := Lib.hid hb0
  have Q1 := Lib.hid ((R1.out.below hb0 (Nat.le_refl _)).more hb0.size)
  have Q2 := Lib.hid ((R2.out.below hb0 (Nat.le_refl _)).more hb0.size)
  clear hb0 hs
  unfold Pt.v at *
  by_cases hv : E = 0
  · subst hv
    rw [if_pos rfl]
    have HQ := Lib.hid (fun w h g => HP.out w h g rfl)
    go_enter Try.func28, Try.ntmps28
    go_wp2_with fail
    refine (HV.out W Q1.out Q2.out).mono ?_
    rintro e w1 ⟨rfl, hb⟩
    clear hW h0 h1
    obtain ⟨h0, h1⟩ := pt_keep F.out hb
    have B1 := Lib.hid (B.out.trans (hb.mono B.out.size))
    have P1 := Lib.hid ((R1.out.below B1.out (Nat.le_refl _)).more B1.out.size)
    have P2 := Lib.hid ((R2.out.below B1.out (Nat.le_refl _)).more B1.out.size)
    clear hb
    go_wp2_with fail
    refine (HQ.out w1 P1.out P2.out).mono ?_
    rintro e w2 ⟨rfl, hb⟩
    go_wp2_with fail
    go_ret2
    exact ⟨rfl, B1.out.trans (hb.mono B1.out.size)⟩
  · rw [if_neg hv]
    have hE : (E == 0) = false := by simpa using hv
    have hE' : (E != 0) = true := by simpa using hv
    clear hv
    go_enter Try.func28, Try.ntmps28
    go_wp2_with fail
    refine (HV.out W Q1.out Q2.out).mono ?_
    rintro e w1 ⟨rfl, hb⟩
    go_wp2_with fail
    go_ret2
    exact ⟨rfl, B.out.trans (hb.mono B.out.size)⟩

/-! ### The reference's -/
set_option maxRecDepth 4000 in
set_option maxHeartbeats 1000000 in
theorem rseers_any (A1 A2 : Option Addr) (c1 c2 : Nat) (l : List Sg) (eyes : List Pt) (p : Pt) (w : World) (hr1 : Rd w w.heap.size A1 (l.flatMap Sg.cells)) (hr2 : Rd w w.heap.size A2 (eyes.flatMap Pt.cells)) (hn1 : l.length ≤ 1000) (hn2 : eyes.length ≤ 1000)
    (hl : ∀ s ∈ l, okP s.a = true ∧ okP s.b = true) (he : ∀ e ∈ eyes, okP e = true) (hp : okP p = true) :
    Calls Try.prog 62 #[.slice A1 l.length c1, .slice A2 eyes.length c2, p.v] w (Made w (seerL l eyes p)) := by
  have R1 := Lib.hid hr1
  have R2 := Lib.hid hr2
  clear hr1 hr2
  obtain ⟨W, hW, h0, h1, hs, hb0⟩ := one_pt w (.int .i64 p.x) (.int .i64 p.y) 23
  have F := Lib.hid (And.intro h0 (And.intro h1 hs))
  have B := Lib.hid hb0
  clear hb0 hs
  have HS := Lib.hid (fun (e : Pt) (h : e ∈ eyes) w g => rsees_any A1 c1 l e p w g hn1 hl (he e h) hp)
  have HEy := Lib.hid (fun i e (hx : eyes[i]? = some e) => eyeAt_is (l := l) (p := p) hx)
  have HE := Lib.hid (show seerL l eyes p = idxK (eyeAt l eyes p) eyes.length from rfl)
  clear hl he hp
  obtain ⟨S, hS⟩ : ∃ f : Pt → Bool, (fun e => seesB l e p) = f := ⟨_, rfl⟩
  have HSS := Lib.hid (show ∀ e : Pt, seesB l e p = S e from fun e => congrFun hS e)
  obtain ⟨f, hf⟩ : ∃ f, eyeAt l eyes p = f := ⟨_, rfl⟩
  rw [hf] at HEy HE
  have HYe := Lib.hid (fun k (h : f k = true) => idx_yes h)
  have HNo := Lib.hid (fun k (h : f k = false) => idx_no h)
  have HLe := Lib.hid (idx_le f)
  have HK0 := Lib.hid (show idxK f 0 = [] from rfl)
  clear hS hf
  generalize idxK f = K at *
  unfold Pt.v at *
  go_enter Try.func62, Try.ntmps62
  go_wp2_with fail
  clear hW h0 h1
  go_loopw [7, 8] (fun v i wr => ∃ (k : Nat) (A9 : Option Addr) (c9 : Nat), k ≤ eyes.length ∧ i = .int .i64 k ∧ v = .slice A9 (K k).length c9 ∧ wr.ownsRow W.heap.size 3 1 v (K k).length (ints (K k)) ∧ Below W.heap.size W wr) (fun _ i _ => eyes.length - (intOf i).toNat)
  case atStart => exact ⟨0, none, 0, by omega, rfl, by rw [HK0.out]; rfl, by rw [HK0.out]; exact World.ownsRow_nil _ _ _ _, Below.refl _ _⟩
  case round =>
    obtain ⟨k, A9, c9, hk, rfl, rfl, hown, hb⟩ := hrel
    have O := Lib.hid hown
    have BW := Lib.hid hb
    have BB := Lib.hid (B.out.trans (hb.mono B.out.size))
    obtain ⟨h0, h1⟩ := pt_keep F.out hb
    clear hown hb
    by_cases hlt : k < eyes.length
    · obtain ⟨b, o, ⟨x0, y0⟩, rfl, hx, c0, c1⟩ := (R2.out.below BB.out (Nat.le_refl _)).pt k hlt
      simp only at c0 c1
      have HQ := Lib.hid (HS.out _ (List.mem_of_getElem? hx.out))
      have e0 := HSS.out ⟨x0, y0⟩
      rw [e0] at HQ
      have HG0 := Lib.hid ((HEy.out k _ hx.out).trans e0)
      have R3 := Lib.hid ((R1.out.below BB.out (Nat.le_refl _)).more BB.out.size)
      have hle := HLe.out k
      clear e0
      have g0 := fun d os => cell_regrown c0 d os
      have g1 := fun d os => cell_regrown c1 d os
      have f0 := fun d os => cell_regrown h0 d os
      have f1 := fun d os => cell_regrown h1 d os
      obtain ⟨q, hq⟩ : ∃ q, S ⟨x0, y0⟩ = q := ⟨_, rfl⟩
      rw [hq] at HQ HG0
      clear hq
      cases q
      · have HX2 := Lib.hid (HNo.out k HG0.out)
        go_wp2_with fail
        refine wp_region_quiet_below (by kernel_rfl) (by kernel_rfl) ?_
        repeat (go_big_quiet_step (with_reducible exact Calls.regrown_of (HQ.out _ (rd_grown R3.out _ _))))
        refine wpQuiet_nil ?_
        intro _ hw'
        obtain ⟨⟨dq, osq⟩, hw''⟩ := hw'
        subst hw''
        have B2 := Lib.hid (BW.out.trans ((below_regrown wr dq osq).mono BW.out.size))
        have O2 := Lib.hid (own_below O.out (below_regrown wr dq osq))
        go_wp2_with fail
        go_roundw
        case rel => exact ⟨k + 1, A9, c9, by omega, by go_num, by rw [HX2.out], by rw [HX2.out]; exact O2.out, B2.out⟩
        case measure => simp [intOf]; omega
      · have HX2 := Lib.hid (HYe.out k HG0.out)
        go_wp2_with fail
        refine wp_region_quiet_below (by kernel_rfl) (by kernel_rfl) ?_
        repeat (go_big_quiet_step (with_reducible exact Calls.regrown_of (HQ.out _ (rd_grown R3.out _ _))))
        refine wpQuiet_nil ?_
        intro _ hw'
        obtain ⟨⟨dq, osq⟩, hw''⟩ := hw'
        subst hw''
        have B2 := Lib.hid (BW.out.trans ((below_regrown wr dq osq).mono BW.out.size))
        have O2 := Lib.hid (own_below O.out (below_regrown wr dq osq))
        clear g0 g1 f0 f1
        obtain ⟨w2, hw2⟩ : ∃ w2, Go.Sort.grow (redrawn wr dq) osq = w2 := ⟨_, rfl⟩
        rw [hw2] at B2 O2
        go_wp2_with (at_builtin; refine app eInt rfl _ _ rfl rfl (O2.out.alloc _) (B2.out.alloc B2.out.size _) (size_alloc' B2.out.size _) rfl (Rd.one w2 (.int .i64 k) 3 (Nat.lt_succ_self _)) (by simp) (ints_one [(k : Int)]) ((K k).length + 1) rfl (by omega) ?_; intro A4 c4 w4 o4 b4 _ _; have O4 := Lib.hid o4; have B4 := Lib.hid b4; clear o4 b4)
        go_roundw
        case rel => exact ⟨k + 1, A4, c4, by omega, by go_num, by rw [HX2.out, List.length_append]; rfl, by rw [HX2.out, List.length_append, ints_append]; exact O4.out, B4.out⟩
        case measure => simp [intOf]; omega
    · have hks : k = eyes.length := by omega
      have HK := Lib.hid hks
      clear hks
      go_wp2_with fail
      go_ret
      exact ⟨A9, c9, by rw [HE.out, ← HK.out]; rfl, by have := Rd.of_own O.out; rw [HE.out, ← HK.out]; exact this, BB.out⟩
end Go.Proofs.Ytcefcpplkcebjaa

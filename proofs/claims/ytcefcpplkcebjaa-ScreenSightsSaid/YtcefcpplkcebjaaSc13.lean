/-
  The walks of checkPoints, checkEyes, Seers, isHidden, Hidden of package screen. No condition.
-/
import Derived.Test.YtcefcpplkcebjaaSc12
namespace Go.Proofs.Ytcefcpplkcebjaa
open Go.RowKit
set_option linter.unusedVariables false

def idxK (f : Nat → Bool) (k : Nat) : List Int := ((List.range k).filter f).map fun (i : Nat) => (i : Int)
theorem idx_yes {f : Nat → Bool} {k : Nat} (h : f k = true) : idxK f (k + 1) = idxK f k ++ [(k : Int)] := by
  unfold idxK
  rw [List.range_succ, List.filter_append, List.map_append]
  simp [h]
theorem idx_no {f : Nat → Bool} {k : Nat} (h : f k = false) : idxK f (k + 1) = idxK f k := by
  unfold idxK
  rw [List.range_succ, List.filter_append, List.map_append]
  simp [h]
theorem idx_le (f : Nat → Bool) (k : Nat) : (idxK f k).length ≤ k := by
  unfold idxK
  rw [List.length_map]
  have := List.length_filter_le f (List.range k)
  simpa using this
theorem idx_none {f : Nat → Bool} {n : Nat} : (idxK f n).length = 0 ↔ ∀ j, j < n → f j = false := by
  unfold idxK
  rw [List.length_map, List.length_eq_zero_iff, List.filter_eq_nil_iff]
  constructor
  · intro h j hj; have := h j (List.mem_range.2 hj); simpa using this
  · intro h j hj; have := h j (List.mem_range.1 hj); simpa using this
def eyeAt (l : List Sg) (eyes : List Pt) (p : Pt) (i : Nat) : Bool := match eyes[i]? with
  | some e => seesB l e p
  | none => false
theorem eyeAt_is {l : List Sg} {eyes : List Pt} {p e : Pt} {i : Nat} (hx : eyes[i]? = some e) : eyeAt l eyes p i = seesB l e p := by unfold eyeAt; rw [hx]
def seerL (l : List Sg) (eyes : List Pt) (p : Pt) : List Int := idxK (eyeAt l eyes p) eyes.length
def hidB (l : List Sg) (eyes : List Pt) (p : Pt) : Bool := decide ((seerL l eyes p).length = 0)
def chkE (l : List Sg) (pts : List Pt) (lim : Int) : Int := if valE l = 0 then (if lim < (pts.length : Int) then 3 else tE (allP pts)) else valE l
theorem look_chk (l : List Sg) (eyes : List Pt) (p : Pt) : lookE l eyes [p] = if chkE l eyes 8 = 0 then tE (okP p) else chkE l eyes 8 := by
  unfold lookE chkE tE
  by_cases hv : valE l = 0
  · rw [if_pos hv, if_pos hv]
    by_cases h8 : 8 < eyes.length
    · have h8' : (8 : Int) < (eyes.length : Int) := by omega
      rw [if_pos (.inl h8), if_pos h8']
      simp
    · have h8' : ¬ (8 : Int) < (eyes.length : Int) := by omega
      rw [if_neg (by simp; omega), if_neg h8']
      cases allP eyes <;> cases h : okP p <;> simp [allP, h]
  · rw [if_neg hv, if_neg hv, if_neg hv]
set_option maxHeartbeats 400000 in
theorem checkPoints_any (A1 A2 : Option Addr) (c1 c2 : Nat) (l : List Sg) (pts : List Pt) (lim : Int) (w : World) (hr1 : Rd w w.heap.size A1 (l.flatMap Sg.cells)) (hr2 : Rd w w.heap.size A2 (pts.flatMap Pt.cells)) (hn1 : l.length ≤ 9223372036854775807) (hn2 : pts.length ≤ 9223372036854775807) :
    Calls Try.prog 64 #[.slice A1 l.length c1, .slice A2 pts.length c2, .int .i64 lim] w fun e w' => e = .returned (.int .i64 (chkE l pts lim)) ∧ Below w.heap.size w w' := by
  have R1 := Lib.hid hr1
  have R2 := Lib.hid hr2
  have HV := Lib.hid (fun w h => Validate_any A1 c1 l w h hn1)
  have HP := Lib.hid (fun w h => arePoints_any A2 c2 pts pts.length w rfl h hn2)
  clear hr1 hr2
  unfold chkE
  by_cases hv : valE l = 0
  · rw [if_pos hv]
    rw [hv] at HV
    clear hv
    generalize allP pts = p at *
    by_cases h8 : lim < (pts.length : Int)
    · rw [if_pos h8]
      go_enter Try.func64, Try.ntmps64
      go_wp2_with fail
      refine (HV.out w R1.out).mono ?_
      rintro e w1 ⟨rfl, hb⟩
      go_wp2_with fail
      go_ret
      exact ⟨rfl, hb⟩
    · rw [if_neg h8]
      unfold tE
      cases p
      all_goals
        go_enter Try.func64, Try.ntmps64
        go_wp2_with fail
        refine (HV.out w R1.out).mono ?_
        rintro e w1 ⟨rfl, hb⟩
        have B1 := Lib.hid hb
        have Q2 := Lib.hid ((R2.out.below hb (Nat.le_refl _)).more hb.size)
        clear hb
        go_wp2_with fail
        refine (HP.out w1 Q2.out).mono ?_
        rintro e w2 ⟨rfl, hb⟩
        go_wp2_with fail
        go_ret
        exact ⟨rfl, B1.out.trans (hb.mono B1.out.size)⟩
  · rw [if_neg hv]
    generalize valE l = E at *
    have hE : (E == 0) = false := by simpa using hv
    have hE' : (E != 0) = true := by simpa using hv
    clear hv
    go_enter Try.func64, Try.ntmps64
    go_wp2_with fail
    refine (HV.out w R1.out).mono ?_
    rintro e w1 ⟨rfl, hb⟩
    go_wp2_with fail
    go_ret
    exact ⟨rfl, hb⟩
theorem one_pt (w : World) (v0 v1 : Value) (t : TypeId) : ∃ W, w.alloc (.cells #[v0, v1] t) = W ∧ W.cell? ⟨w.heap.size, 0, none⟩ = some v0 ∧ W.cell? ⟨w.heap.size, 1, none⟩ = some v1 ∧ w.heap.size < W.heap.size ∧ Below w.heap.size w W := by
  have h := heap_alloc_new w (.cells #[v0, v1] t)
  refine ⟨_, rfl, ?_, ?_, by simp, (Below.refl _ _).alloc (Nat.le_refl _) _⟩ <;> rw [cell_of_row _ _ _ _ _ _ h] <;> rfl
theorem pt_keep {W w1 : World} {n : Nat} {v0 v1 : Value} (h : W.cell? ⟨n, 0, none⟩ = some v0 ∧ W.cell? ⟨n, 1, none⟩ = some v1 ∧ n < W.heap.size) (hb : Below W.heap.size W w1) :
    w1.cell? ⟨n, 0, none⟩ = some v0 ∧ w1.cell? ⟨n, 1, none⟩ = some v1 := by
  obtain ⟨h0, h1, hn⟩ := h
  have k := fun o => hb.cell (p := ⟨n, o, none⟩) hn
  exact ⟨(k 0).trans h0, (k 1).trans h1⟩
theorem arePoints_lit1 (a : Pt) (w : World) : Calls Try.prog 50 #[.slice (some ⟨w.heap.size, 0, none⟩) 1 1] (w.alloc (.cells #[.int .i64 a.x, .int .i64 a.y] 23)) fun e w' => e = .returned (.bool (okP a)) ∧ Below w.heap.size w w' := by
  refine (arePoints_any _ 1 [a] 1 _ rfl (Rd.lit w ([a].flatMap Pt.cells) 23) (by decide)).mono ?_
  rintro e w' ⟨rfl, hb⟩
  exact ⟨by simp [allP], ((Below.refl _ _).alloc (Nat.le_refl _) _).trans (hb.mono (by simp))⟩
set_option maxRecDepth 4000 in
set_option maxHeartbeats 400000 in
theorem checkEyes_any (A1 A2 : Option Addr) (c1 c2 : Nat) (l : List Sg) (eyes : List Pt) (p : Pt) (w : World) (hr1 : Rd w w.heap.size A1 (l.flatMap Sg.cells)) (hr2 : Rd w w.heap.size A2 (eyes.flatMap Pt.cells)) (hn1 : l.length ≤ 9223372036854775807) (hn2 : eyes.length ≤ 9223372036854775807) :
    Calls Try.prog 61 #[.slice A1 l.length c1, .slice A2 eyes.length c2, p.v] w fun e w' => e = .returned (.int .i64 (lookE l eyes [p])) ∧ Below w.heap.size w w' := by
  have R1 := Lib.hid hr1
  have R2 := Lib.hid hr2
  have HV := Lib.hid (fun w h g => checkPoints_any A1 A2 c1 c2 l eyes 8 w h g hn1 hn2)
  have HP := Lib.hid (fun w => arePoints_lit1 p w)
  clear hr1 hr2
  rw [look_chk]
  obtain ⟨W, hW, h0, h1, hs, hb0⟩ := one_pt w (.int .i64 p.x) (.int .i64 p.y) 23
  have F := Lib.hid (And.intro h0 (And.intro h1 hs))
  have B := Lib.hid hb0
  have Q1 := Lib.hid ((R1.out.below hb0 (Nat.le_refl _)).more hb0.size)
  have Q2 := Lib.hid ((R2.out.below hb0 (Nat.le_refl _)).more hb0.size)
  clear hb0 hs
  unfold Pt.v
  generalize okP p = q at *
  by_cases hv : chkE l eyes 8 = 0
  · rw [if_pos hv]
    rw [hv] at HV
    clear hv
    unfold tE
    cases q
    all_goals
      go_enter Try.func61, Try.ntmps61
      go_wp2_with fail
      refine (HV.out W Q1.out Q2.out).mono ?_
      rintro e w1 ⟨rfl, hb⟩
      clear hW h0 h1
      obtain ⟨h0, h1⟩ := pt_keep F.out hb
      have B1 := Lib.hid (B.out.trans (hb.mono B.out.size))
      clear hb
      go_wp2_with fail
      refine (HP.out w1).mono ?_
      rintro e w2 ⟨rfl, hb⟩
      go_wp2_with fail
      go_ret
      exact ⟨rfl, B1.out.trans (hb.mono B1.out.size)⟩
  · rw [if_neg hv]
    generalize chkE l eyes 8 = E at *
    have hE : (E == 0) = false := by simpa using hv
    have hE' : (E != 0) = true := by simpa using hv
    clear hv
    go_enter Try.func61, Try.ntmps61
    go_wp2_with fail
    refine (HV.out W Q1.out Q2.out).mono ?_
    rintro e w1 ⟨rfl, hb⟩
    go_wp2_with fail
    go_ret
    exact ⟨rfl, B.out.trans (hb.mono B.out.size)⟩
theorem look_zero {l : List Sg} {eyes : List Pt} {p : Pt} (h : lookE l eyes [p] = 0) : valE l = 0 ∧ eyes.length ≤ 8 ∧ (∀ e ∈ eyes, okP e = true) ∧ okP p = true := by
  unfold lookE tE at h
  split at h
  · split at h
    · cases h
    · split at h
      · rename_i h1 h2 h3
        simp only [Bool.and_eq_true] at h3
        refine ⟨h1, by omega, fun e he => List.all_eq_true.1 h3.1 e he, ?_⟩
        have := h3.2
        simpa [allP] using this
      · cases h
  · contradiction
set_option maxRecDepth 4000 in
set_option maxHeartbeats 800000 in
theorem isHidden_any (A1 A2 : Option Addr) (c1 c2 : Nat) (l : List Sg) (eyes : List Pt) (p : Pt) (w : World) (hr1 : Rd w w.heap.size A1 (l.flatMap Sg.cells)) (hr2 : Rd w w.heap.size A2 (eyes.flatMap Pt.cells)) (hn1 : l.length ≤ 9223372036854775807) (hn2 : eyes.length ≤ 9223372036854775807)
    (hl : ∀ s ∈ l, okP s.a = true ∧ okP s.b = true) (he : ∀ e ∈ eyes, okP e = true) (hp : okP p = true) :
    Calls Try.prog 63 #[.slice A1 l.length c1, .slice A2 eyes.length c2, p.v] w fun e w' => e = .returned (.bool (hidB l eyes p)) ∧ Below w.heap.size w w' := by
  have R1 := Lib.hid hr1
  have R2 := Lib.hid hr2
  have HS := Lib.hid (fun (e : Pt) (h : e ∈ eyes) w g => sees_any A1 c1 l e p w g hn1 hl (he e h) hp)
  have HI := Lib.hid (@idx_none (eyeAt l eyes p) eyes.length)
  have HEy := Lib.hid (fun i e (hx : eyes[i]? = some e) => eyeAt_is (l := l) (p := p) hx)
  clear hr1 hr2 hl he hp
  obtain ⟨S, hS⟩ : ∃ f : Pt → Bool, (fun e => seesB l e p) = f := ⟨_, rfl⟩
  have HSS := Lib.hid (show ∀ e : Pt, seesB l e p = S e from fun e => congrFun hS e)
  clear hS
  obtain ⟨W, hW, h0, h1, hs, hb0⟩ := one_pt w (.int .i64 p.x) (.int .i64 p.y) 23
  have F := Lib.hid (And.intro h0 (And.intro h1 hs))
  have B := Lib.hid hb0
  clear hb0 hs
  unfold Pt.v at *
  go_enter Try.func63, Try.ntmps63
  go_wp2_with fail
  clear hW h0 h1
  go_loopw [11] (fun i wr => ∃ k : Nat, k ≤ eyes.length ∧ i = .int .i64 k ∧ (∀ j, j < k → eyeAt l eyes p j = false) ∧ Below W.heap.size W wr) (fun i _ => eyes.length - (intOf i).toNat)
  case atStart => exact ⟨0, by omega, rfl, fun j hj => by omega, Below.refl _ _⟩
  case round =>
    obtain ⟨k, hk, rfl, hall, hb⟩ := hrel
    have HA := Lib.hid hall
    have BW := Lib.hid hb
    have BB := Lib.hid (B.out.trans (hb.mono B.out.size))
    obtain ⟨h0, h1⟩ := pt_keep F.out hb
    have S1 : w.heap.size < wr.heap.size := Nat.lt_of_lt_of_le F.out.2.2 hb.size
    clear hall hb
    by_cases hlt : k < eyes.length
    · obtain ⟨b, o, ⟨x0, y0⟩, rfl, hx, c0, c1⟩ := (R2.out.below BB.out (Nat.le_refl _)).pt k hlt
      simp only at c0 c1
      have HQ := Lib.hid (HS.out _ (List.mem_of_getElem? hx.out))
      have e0 := HSS.out ⟨x0, y0⟩
      rw [e0] at HQ
      have HG0 := Lib.hid ((HEy.out k _ hx.out).trans e0)
      have B3 := Lib.hid (BW.out.alloc BW.out.size (.cells #[.int .i64 x0, .int .i64 y0] 23))
      have BB3 := Lib.hid (B.out.trans (B3.out.mono B.out.size))
      have R3 := Lib.hid ((R1.out.below BB3.out (Nat.le_refl _)).more BB3.out.size)
      clear e0
      obtain ⟨q, hq⟩ : ∃ q, S ⟨x0, y0⟩ = q := ⟨_, rfl⟩
      rw [hq] at HQ HG0
      clear hq
      cases q
      · go_wp2_with fail
        refine (HQ.out _ R3.out).mono ?_
        rintro e w1 ⟨rfl, hb⟩
        have B4 := Lib.hid (B3.out.trans (hb.mono B3.out.size))
        clear hb
        go_wp2_with fail
        go_roundw
        case rel => exact ⟨k + 1, by omega, by go_num, fun j hj => by
          rcases Nat.lt_or_ge j k with h | h
          · exact HA.out j h
          · obtain rfl : j = k := by omega
            exact HG0.out, B4.out⟩
        case measure => simp [intOf]; omega
      · go_wp2_with fail
        refine (HQ.out _ R3.out).mono ?_
        rintro e w1 ⟨rfl, hb⟩
        have B4 := Lib.hid (B3.out.trans (hb.mono B3.out.size))
        clear hb
        have hF : hidB l eyes p = false := by
          unfold hidB
          rw [decide_eq_false_iff_not]
          intro h
          have := HI.out.1 h k hlt
          rw [HG0.out] at this
          cases this
        have HF := Lib.hid hF
        clear hF
        go_wp2_with fail
        go_ret
        exact ⟨by rw [HF.out]; rfl, B.out.trans (B4.out.mono B.out.size)⟩
    · have hks : k = eyes.length := by omega
      have HK := Lib.hid hks
      have HF := Lib.hid (show hidB l eyes p = true by
        unfold hidB
        rw [decide_eq_true_eq]
        exact HI.out.2 (by rw [← hks]; exact HA.out))
      clear hks
      go_wp2_with fail
      go_ret
      exact ⟨by rw [HF.out]; rfl, BB.out⟩
end Go.Proofs.Ytcefcpplkcebjaa

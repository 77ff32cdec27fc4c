/-
  The walks of checkSight, sees, Sees of package screen; of the law's known. No condition.
-/
import Derived.Test.YtcefcpplkcebjaaSc5
namespace Go.Proofs.Ytcefcpplkcebjaa
open Go.RowKit
set_option linter.unusedVariables false

def seesB (l : List Sg) (a b : Pt) : Bool := l.all fun s => !s.cut a b
def sightE (l : List Sg) (a b : Pt) : Int := if valE l = 0 then tE (okP a && okP b) else valE l
def seesV (l : List Sg) (a b : Pt) : Bool := if sightE l a b = 0 then seesB l a b else false
theorem sight_zero {l : List Sg} {a b : Pt} (h : sightE l a b = 0) : valE l = 0 ∧ okP a = true ∧ okP b = true := by
  unfold sightE tE at h
  split at h
  · split at h
    · rename_i h1 h2
      simp only [Bool.and_eq_true] at h2
      exact ⟨h1, h2.1, h2.2⟩
    · cases h
  · contradiction
theorem sees_no {l : List Sg} {a b : Pt} {k : Nat} {s : Sg} (hx : l[k]? = some s) (h : s.cut a b = true) : seesB l a b = false := by
  unfold seesB
  rw [List.all_eq_false]
  exact ⟨s, List.mem_of_getElem? hx, by simp [h]⟩
theorem sees_yes {l : List Sg} {a b : Pt} (h : ∀ (j : Nat) s, j < l.length → l[j]? = some s → s.cut a b = false) : seesB l a b = true := by
  refine List.all_eq_true.2 fun p hp => ?_
  obtain ⟨j, hj, he⟩ := List.getElem_of_mem hp
  have := h j p hj (by rw [← he]; exact List.getElem?_eq_getElem hj)
  simp [this]
theorem pts_of {l : List Sg} (h : valE l = 0) : ∀ s ∈ l, okP s.a = true ∧ okP s.b = true := fun s hs => okS_pts ((valE_zero h).2 s hs)
theorem two_box (w : World) (v0 v1 v2 v3 : Value) (t : TypeId) :
    ((w.alloc (.cells #[v0, v1] t)).alloc (.cells #[v2, v3] t)).cell? ⟨w.heap.size, 0, none⟩ = some v0 ∧ ((w.alloc (.cells #[v0, v1] t)).alloc (.cells #[v2, v3] t)).cell? ⟨w.heap.size, 1, none⟩ = some v1 ∧
    ((w.alloc (.cells #[v0, v1] t)).alloc (.cells #[v2, v3] t)).cell? ⟨w.heap.size + 1, 0, none⟩ = some v2 ∧ ((w.alloc (.cells #[v0, v1] t)).alloc (.cells #[v2, v3] t)).cell? ⟨w.heap.size + 1, 1, none⟩ = some v3 ∧
    ((w.alloc (.cells #[v0, v1] t)).alloc (.cells #[v2, v3] t)).heap.size = w.heap.size + 2 ∧ Below w.heap.size w ((w.alloc (.cells #[v0, v1] t)).alloc (.cells #[v2, v3] t)) := by
  have a := two_new w v0 v1 t
  have b := two_new (w.alloc (.cells #[v0, v1] t)) v2 v3 t
  simp only [World.size_alloc] at b
  exact ⟨cell_up a.1, cell_up a.2, b.1, b.2, by simp, ((Below.refl _ _).alloc (Nat.le_refl _) _).alloc (by simp) _⟩
set_option maxRecDepth 4000 in
set_option maxHeartbeats 400000 in
theorem checkSight_any (A : Option Addr) (c : Nat) (l : List Sg) (a b : Pt) (w : World) (hr : Rd w w.heap.size A (l.flatMap Sg.cells)) (hn : l.length ≤ 9223372036854775807) :
    Calls Try.prog 54 #[.slice A l.length c, a.v, b.v] w fun e w' => e = .returned (.int .i64 (sightE l a b)) ∧ Below w.heap.size w w' := by
  have HR := Lib.hid hr
  have HV := Lib.hid (fun w h => Validate_any A c l w h hn)
  have HP := Lib.hid (fun w => arePoints_lit2 a b w)
  clear hr
  unfold sightE
  obtain ⟨ax, ay⟩ := a
  obtain ⟨bx, bz⟩ := b
  obtain ⟨W, hW⟩ : ∃ W, ((w.alloc (.cells #[.int .i64 ax, .int .i64 ay] 23)).alloc (.cells #[.int .i64 bx, .int .i64 bz] 23)) = W := ⟨_, rfl⟩
  have F := two_box w (.int .i64 ax) (.int .i64 ay) (.int .i64 bx) (.int .i64 bz) 23
  rw [hW] at F
  obtain ⟨h0, h1, h2, h3, hz, hb0⟩ := F
  have B := Lib.hid hb0
  have N4 := Lib.hid hz
  have F4 := Lib.hid (And.intro h0 (And.intro h1 (And.intro h2 h3)))
  have RW := Lib.hid ((HR.out.below hb0 (Nat.le_refl _)).more hb0.size)
  clear hb0 hz h0 h1 h2 h3
  unfold Pt.v at *
  simp only at HP
  by_cases hv : valE l = 0
  · rw [if_pos hv]
    rw [hv] at HV
    clear hv
    generalize (okP ⟨ax, ay⟩ && okP ⟨bx, bz⟩) = p at *
    cases p
    all_goals
      go_enter Try.func54, Try.ntmps54
      go_wp2_with fail
      refine (HV.out W RW.out).mono ?_
      rintro e w1 ⟨rfl, hb⟩
      have k := fun b o (h : b < W.heap.size) => hb.cell (p := ⟨b, o, none⟩) h
      have n4 := N4.out
      have e0 := (k _ _ (by omega)).trans F4.out.1
      have e1 := (k _ _ (by omega)).trans F4.out.2.1
      have e2 := (k _ _ (by omega)).trans F4.out.2.2.1
      have e3 := (k _ _ (by omega)).trans F4.out.2.2.2
      have B1 := Lib.hid (B.out.trans (hb.mono B.out.size))
      clear hb k n4 hW
      go_wp2_with fail
      refine (HP.out w1).mono ?_
      rintro e w2 ⟨rfl, hb⟩
      go_wp2_with fail
      go_ret
      exact ⟨rfl, B1.out.trans (hb.mono B1.out.size)⟩
  · rw [if_neg hv]
    generalize valE l = E at *
    have hE : (E == 0) = false := by simpa using hv
    have hE' : (E != 0) = true := by simpa using hv
    clear hv
    go_enter Try.func54, Try.ntmps54
    go_wp2_with fail
    refine (HV.out W RW.out).mono ?_
    rintro e w1 ⟨rfl, hb⟩
    go_wp2_with fail
    go_ret
    exact ⟨rfl, B.out.trans (hb.mono B.out.size)⟩
set_option maxRecDepth 4000 in
set_option maxHeartbeats 800000 in
theorem sees_any (A : Option Addr) (c : Nat) (l : List Sg) (a b : Pt) (w : World) (hr : Rd w w.heap.size A (l.flatMap Sg.cells)) (hn : l.length ≤ 9223372036854775807) (hl : ∀ s ∈ l, okP s.a = true ∧ okP s.b = true) (ha : okP a = true) (hb : okP b = true) :
    Calls Try.prog 55 #[.slice A l.length c, a.v, b.v] w fun e w' => e = .returned (.bool (seesB l a b)) ∧ Below w.heap.size w w' := by
  have HR := Lib.hid hr
  have HC := Lib.hid (fun (s : Sg) (hs : s ∈ l) w => cuts_any s a b w (hl s hs).1 (hl s hs).2 ha hb)
  have HN := Lib.hid (fun k s (hx : l[k]? = some s) h => sees_no (a := a) (b := b) hx h)
  have HY := Lib.hid (fun h => sees_yes (l := l) (a := a) (b := b) h)
  clear hr hl ha hb
  obtain ⟨S, hS⟩ : ∃ S, seesB l a b = S := ⟨_, rfl⟩
  have HS := Lib.hid hS
  rw [hS]
  clear hS
  obtain ⟨cutf, hcf⟩ : ∃ f : Sg → Bool, (fun s => s.cut a b) = f := ⟨_, rfl⟩
  have hcf' : ∀ s : Sg, s.cut a b = cutf s := fun s => congrFun hcf s
  have HCF := Lib.hid hcf'
  clear hcf hcf'
  obtain ⟨ax, ay⟩ := a
  obtain ⟨bx, bz⟩ := b
  obtain ⟨W, hW⟩ : ∃ W, ((w.alloc (.cells #[.int .i64 ax, .int .i64 ay] 23)).alloc (.cells #[.int .i64 bx, .int .i64 bz] 23)) = W := ⟨_, rfl⟩
  have F := two_box w (.int .i64 ax) (.int .i64 ay) (.int .i64 bx) (.int .i64 bz) 23
  rw [hW] at F
  obtain ⟨h0, h1, h2, h3, hz, hb0⟩ := F
  have B := Lib.hid hb0
  have N4 := Lib.hid hz
  have F4 := Lib.hid (And.intro h0 (And.intro h1 (And.intro h2 h3)))
  clear hb0 hz h0 h1 h2 h3
  unfold Pt.v Sg.v at *
  simp only at HC
  go_enter Try.func55, Try.ntmps55
  go_wp2_with fail
  clear hW
  go_loopw [11] (fun i wr => ∃ k : Nat, k ≤ l.length ∧ i = .int .i64 k ∧ (∀ (j : Nat) s, j < k → l[j]? = some s → cutf s = false) ∧ Below W.heap.size W wr) (fun i _ => l.length - (intOf i).toNat)
  case atStart => exact ⟨0, by omega, rfl, fun j x hj => by omega, Below.refl _ _⟩
  case round =>
    obtain ⟨k, hk, rfl, hall, hb⟩ := hrel
    have HA := Lib.hid hall
    have BW := Lib.hid hb
    have BB := Lib.hid (B.out.trans (hb.mono B.out.size))
    have kk := fun b o (h : b < W.heap.size) => hb.cell (p := ⟨b, o, none⟩) h
    have n4 := N4.out
    have e0 := (kk _ _ (by omega)).trans F4.out.1
    have e1 := (kk _ _ (by omega)).trans F4.out.2.1
    have e2 := (kk _ _ (by omega)).trans F4.out.2.2.1
    have e3 := (kk _ _ (by omega)).trans F4.out.2.2.2
    have SW := hb.size
    have S1 : w.heap.size < wr.heap.size := by omega
    have S2 : w.heap.size + 1 < wr.heap.size := by omega
    clear hall hb kk n4 SW
    by_cases hlt : k < l.length
    · obtain ⟨b, o, ⟨⟨x0, y0⟩, ⟨x1, y1⟩⟩, rfl, hx, c0, c1, c2, c3⟩ := (HR.out.below BB.out (Nat.le_refl _)).sg k hlt
      simp only at c0 c1 c2 c3
      have HQ := Lib.hid (HC.out _ (List.mem_of_getElem? hx.out))
      rw [HCF.out] at HQ
      simp only at HQ
      have hq := HCF.out ⟨⟨x0, y0⟩, ⟨x1, y1⟩⟩
      have HQQ := Lib.hid hq
      clear hq
      have e0' := cell_up (o := .cells #[.int .i64 x0, .int .i64 y0, .int .i64 x1, .int .i64 y1] 71) e0
      have e1' := cell_up (o := .cells #[.int .i64 x0, .int .i64 y0, .int .i64 x1, .int .i64 y1] 71) e1
      have e2' := cell_up (o := .cells #[.int .i64 x0, .int .i64 y0, .int .i64 x1, .int .i64 y1] 71) e2
      have e3' := cell_up (o := .cells #[.int .i64 x0, .int .i64 y0, .int .i64 x1, .int .i64 y1] 71) e3
      obtain ⟨W0, hW0⟩ : ∃ W0, wr.alloc (.cells #[.int .i64 x0, .int .i64 y0, .int .i64 x1, .int .i64 y1] 71) = W0 := ⟨_, rfl⟩
      rw [hW0] at e0' e1' e2' e3'
      have d0 : W0.cell? ⟨wr.heap.size, 0, none⟩ = some (.int .i64 x0) := by rw [← hW0]; simp
      have d1 : W0.cell? ⟨wr.heap.size, 1, none⟩ = some (.int .i64 y0) := by rw [← hW0]; simp
      have d2 : W0.cell? ⟨wr.heap.size, 2, none⟩ = some (.int .i64 x1) := by rw [← hW0]; simp
      have d3 : W0.cell? ⟨wr.heap.size, 3, none⟩ = some (.int .i64 y1) := by rw [← hW0]; simp
      have B0 := Lib.hid (show Below W.heap.size W W0 by rw [← hW0]; exact BW.out.alloc BW.out.size _)
      obtain ⟨q, hq⟩ : ∃ q, cutf ⟨⟨x0, y0⟩, ⟨x1, y1⟩⟩ = q := ⟨_, rfl⟩
      rw [hq] at HQ
      have HG := Lib.hid hq
      clear hq
      cases q
      · go_upto_region 4 with fail
        clear hW0 e0 e1 e2 e3 c0 c1 c2 c3
        go_wp2_with fail
        refine (HQ.out W0).mono ?_
        rintro e w1 ⟨rfl, hb⟩
        have B1 := Lib.hid (B0.out.trans (hb.mono B0.out.size))
        clear hb
        go_wp2_with fail
        go_roundw
        case rel => exact ⟨k + 1, by omega, by go_num, fun j s hj hs => by
          rcases Nat.lt_or_ge j k with h | h
          · exact HA.out j s h hs
          · obtain rfl : j = k := by omega
            rw [hx.out] at hs
            cases hs
            exact HG.out, B1.out⟩
        case measure => simp [intOf]; omega
      · go_upto_region 4 with fail
        clear hW0 e0 e1 e2 e3 c0 c1 c2 c3
        go_wp2_with fail
        refine (HQ.out W0).mono ?_
        rintro e w1 ⟨rfl, hb⟩
        have B1 := Lib.hid (B0.out.trans (hb.mono B0.out.size))
        clear hb
        go_wp2_with fail
        go_ret
        exact ⟨by rw [← HS.out, HN.out _ _ hx.out (by rw [HQQ.out]; exact HG.out)]; rfl, B.out.trans (B1.out.mono B.out.size)⟩
    · have hks : k = l.length := by omega
      have HK := Lib.hid hks
      clear hks
      go_wp2_with fail
      go_ret
      exact ⟨by rw [← HS.out, HY.out (fun j s hj hs => by rw [HCF.out]; exact HA.out j s (by rw [HK.out]; exact hj) hs)]; rfl, BB.out⟩
end Go.Proofs.Ytcefcpplkcebjaa

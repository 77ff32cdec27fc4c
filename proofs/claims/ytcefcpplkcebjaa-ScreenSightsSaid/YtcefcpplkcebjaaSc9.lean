/-
  The walk of Cutters of package screen. No condition.
-/
import Derived.Test.YtcefcpplkcebjaaSc7
namespace Go.Proofs.Ytcefcpplkcebjaa
open Go.RowKit
set_option linter.unusedVariables false

def cutAt (l : List Sg) (a b : Pt) (i : Nat) : Bool := match l[i]? with
  | some s => s.cut a b
  | none => false
def cutK (l : List Sg) (a b : Pt) (k : Nat) : List Int := ((List.range k).filter (cutAt l a b)).map fun (i : Nat) => (i : Int)
def cutL (l : List Sg) (a b : Pt) : List Int := cutK l a b l.length
def cutV (l : List Sg) (a b : Pt) : List Int := if sightE l a b = 0 then cutL l a b else []
theorem cutK_yes {l : List Sg} {a b : Pt} {k : Nat} {s : Sg} (hx : l[k]? = some s) (h : s.cut a b = true) : cutK l a b (k + 1) = cutK l a b k ++ [(k : Int)] := by
  have : cutAt l a b k = true := by unfold cutAt; rw [hx]; exact h
  unfold cutK
  rw [List.range_succ, List.filter_append, List.map_append]
  simp [this]
theorem cutK_no {l : List Sg} {a b : Pt} {k : Nat} {s : Sg} (hx : l[k]? = some s) (h : s.cut a b = false) : cutK l a b (k + 1) = cutK l a b k := by
  have : cutAt l a b k = false := by unfold cutAt; rw [hx]; exact h
  unfold cutK
  rw [List.range_succ, List.filter_append, List.map_append]
  simp [this]
theorem cutK_le (l : List Sg) (a b : Pt) (k : Nat) : (cutK l a b k).length ≤ k := by
  unfold cutK
  rw [List.length_map]
  have := List.length_filter_le (cutAt l a b) (List.range k)
  simpa using this
theorem sees_cut (l : List Sg) (a b : Pt) : seesB l a b = decide ((cutL l a b).length = 0) := by
  cases h : seesB l a b
  · unfold seesB at h
    rw [List.all_eq_false] at h
    obtain ⟨s, hs, hc⟩ := h
    obtain ⟨j, hj, he⟩ := List.getElem_of_mem hs
    have hx : l[j]? = some s := by rw [← he]; exact List.getElem?_eq_getElem hj
    have hc' : cutAt l a b j = true := by unfold cutAt; rw [hx]; simpa using hc
    have : j ∈ (List.range l.length).filter (cutAt l a b) := List.mem_filter.2 ⟨List.mem_range.2 hj, hc'⟩
    have : 0 < ((List.range l.length).filter (cutAt l a b)).length := List.length_pos_of_mem this
    symm
    rw [decide_eq_false_iff_not]
    unfold cutL cutK
    rw [List.length_map]
    omega
  · have h0 : (List.range l.length).filter (cutAt l a b) = [] := by
      rw [List.filter_eq_nil_iff]
      intro j hj
      have hj := List.mem_range.1 hj
      unfold cutAt
      rw [List.getElem?_eq_getElem hj]
      have := List.all_eq_true.1 h l[j] (List.getElem_mem hj)
      simpa using this
    unfold cutL cutK
    rw [h0]
    rfl
theorem own_below {w w' : World} {base n : Nat} {e : TypeId} {size : Nat} {v : Value} {xs : List Value} (h : w.ownsRow base e size v n xs) (hb : Below w.heap.size w w') : w'.ownsRow base e size v n xs := by
  refine ⟨h.1, ?_⟩
  rcases h.2 with h1 | ⟨g, cap, cur, hv, hbg, hg, rest⟩
  · exact .inl h1
  · exact .inr ⟨g, cap, cur, hv, hbg, (hb.block g (lt_of_block hg)).trans hg, rest⟩
theorem Try.infoInt : (Try.prog.info? 3).map (fun i => (i.zero, i.size, i.bytes)) = some (some (.int .i64 0), 1, 8) := by kernel_rfl
theorem eInt : Elem Try.prog 34 3 (.int .i64 0) 1 8 := ⟨Try.underlying34, Try.infoInt, rfl, by decide, by decide⟩
/-- A function that hands back a slice of ints and an error. -/
def MadeE (w : World) (l : List Int) (E : Int) (e : Ending) (w' : World) : Prop := ∃ A c, e = .returned (.tuple #[.slice A l.length c, .int .i64 E]) ∧ Rd w' w'.heap.size A (ints l) ∧ Below w.heap.size w w'
def Made (w : World) (l : List Int) (e : Ending) (w' : World) : Prop := ∃ A c, e = .returned (.slice A l.length c) ∧ Rd w' w'.heap.size A (ints l) ∧ Below w.heap.size w w'
set_option maxRecDepth 4000 in
set_option maxHeartbeats 1000000 in
theorem Cutters_any (A : Option Addr) (c : Nat) (l : List Sg) (a b : Pt) (w : World) (hr : Rd w w.heap.size A (l.flatMap Sg.cells)) (hn : l.length ≤ 9223372036854775807) :
    Calls Try.prog 21 #[.slice A l.length c, a.v, b.v] w (MadeE w (cutV l a b) (sightE l a b)) := by
  have HR := Lib.hid hr
  have HV := Lib.hid (fun w h => checkSight_any A c l a b w h hn)
  clear hr
  obtain ⟨W, hW⟩ : ∃ W, ((w.alloc (.cells #[.int .i64 a.x, .int .i64 a.y] 23)).alloc (.cells #[.int .i64 b.x, .int .i64 b.y] 23)) = W := ⟨_, rfl⟩
  have F := two_box w (.int .i64 a.x) (.int .i64 a.y) (.int .i64 b.x) (.int .i64 b.y) 23
  rw [hW] at F
  obtain ⟨h0, h1, h2, h3, hz, hb0⟩ := F
  have B := Lib.hid hb0
  have N4 := Lib.hid hz
  have F4 := Lib.hid (And.intro h0 (And.intro h1 (And.intro h2 h3)))
  have RW := Lib.hid ((HR.out.below hb0 (Nat.le_refl _)).more hb0.size)
  clear hb0 hz
  by_cases hv : sightE l a b = 0
  · obtain ⟨hval, ha, hb⟩ := sight_zero hv
    have hl := pts_of hval
    have hl12 := (valE_zero hval).1
    have HC := Lib.hid (fun (s : Sg) (hs : s ∈ l) w => cuts_any s a b w (hl s hs).1 (hl s hs).2 ha hb)
    have HE := Lib.hid (show cutV l a b = cutL l a b from if_pos hv)
    rw [hv] at HV ⊢
    have HYe := Lib.hid (fun k s (hx : l[k]? = some s) h => cutK_yes (a := a) (b := b) hx h)
    have HNo := Lib.hid (fun k s (hx : l[k]? = some s) h => cutK_no (a := a) (b := b) hx h)
    have HLe := Lib.hid (fun k => cutK_le l a b k)
    clear hv hval ha hb hl
    obtain ⟨K, hK⟩ : ∃ K : Nat → List Int, cutK l a b = K := ⟨_, rfl⟩
    have HKK := Lib.hid hK
    rw [hK] at HYe HNo HLe
    obtain ⟨cutf, hcf⟩ : ∃ f : Sg → Bool, (fun s => s.cut a b) = f := ⟨_, rfl⟩
    have hcf' : ∀ s : Sg, s.cut a b = cutf s := fun s => congrFun hcf s
    have HCF := Lib.hid hcf'
    clear hcf hcf' hK
    obtain ⟨ax, ay⟩ := a
    obtain ⟨bx, bz⟩ := b
    unfold Pt.v Sg.v at *
    simp only at *
    go_enter Try.func21, Try.ntmps21
    go_wp2_with fail
    refine (HV.out W RW.out).mono ?_
    rintro e w1 ⟨rfl, hb⟩
    have B1 := Lib.hid (B.out.trans (hb.mono B.out.size))
    have k := fun b o (h : b < W.heap.size) => hb.cell (p := ⟨b, o, none⟩) h
    have n4 := N4.out
    have F1 := Lib.hid (And.intro ((k _ _ (by omega)).trans F4.out.1) (And.intro ((k _ _ (by omega)).trans F4.out.2.1) (And.intro ((k _ _ (by omega)).trans F4.out.2.2.1) ((k _ _ (by omega)).trans F4.out.2.2.2))))
    have N1 := Lib.hid (show w.heap.size + 2 ≤ w1.heap.size by have := hb.size; omega)
    clear hb k n4 hW h0 h1 h2 h3
    go_wp2_with fail
    go_loopw [9, 21] (fun v i wr => ∃ (k : Nat) (A9 : Option Addr) (c9 : Nat), k ≤ l.length ∧ i = .int .i64 k ∧ v = .slice A9 (K k).length c9 ∧ wr.ownsRow w1.heap.size 3 1 v (K k).length (ints (K k)) ∧ Below w1.heap.size w1 wr) (fun _ i _ => l.length - (intOf i).toNat)
    case atStart => exact ⟨0, none, 0, by omega, rfl, by rw [← HKK.out]; rfl, by rw [← HKK.out]; exact World.ownsRow_nil _ _ _ _, Below.refl _ _⟩
    case round =>
      obtain ⟨k, A9, c9, hk, rfl, rfl, hown, hb⟩ := hrel
      have O := Lib.hid hown
      have BW := Lib.hid hb
      have BB := Lib.hid (B1.out.trans (hb.mono B1.out.size))
      have kk := fun b o (h : b < w1.heap.size) => hb.cell (p := ⟨b, o, none⟩) h
      have n4 := N1.out
      have e0 := (kk _ _ (by omega)).trans F1.out.1
      have e1 := (kk _ _ (by omega)).trans F1.out.2.1
      have e2 := (kk _ _ (by omega)).trans F1.out.2.2.1
      have e3 := (kk _ _ (by omega)).trans F1.out.2.2.2
      have SW := hb.size
      have S1 : w.heap.size < wr.heap.size := by omega
      have S2 : w.heap.size + 1 < wr.heap.size := by omega
      clear hown hb kk n4 SW
      by_cases hlt : k < l.length
      · obtain ⟨b, o, ⟨⟨x0, y0⟩, ⟨x1, y1⟩⟩, rfl, hx, c0, c1, c2, c3⟩ := (HR.out.below BB.out (Nat.le_refl _)).sg k hlt
        simp only at c0 c1 c2 c3
        have HQ := Lib.hid (HC.out _ (List.mem_of_getElem? hx.out))
        rw [HCF.out] at HQ
        simp only at HQ
        have hq := HCF.out ⟨⟨x0, y0⟩, ⟨x1, y1⟩⟩
        have HQQ := Lib.hid hq
        clear hq
        have e0' := cell_up (o := .cells #[.int .i64 x0, .int .i64 y0, .int .i64 x1, .int .i64 y1] 71) e0
        have e1' := cell_up (o := .cells #[.int .i64 x0, .int .i64 y0, .int .i64 x1, .int .i64 y1] 71) e1
        have e2' := cell_up (o := .cells #[.int .i64 x0, .int .i64 y0, .int .i64 x1, .int .i64 y1] 71) e2
        have e3' := cell_up (o := .cells #[.int .i64 x0, .int .i64 y0, .int .i64 x1, .int .i64 y1] 71) e3
        obtain ⟨W0, hW0⟩ : ∃ W0, wr.alloc (.cells #[.int .i64 x0, .int .i64 y0, .int .i64 x1, .int .i64 y1] 71) = W0 := ⟨_, rfl⟩
        rw [hW0] at e0' e1' e2' e3'
        have d0 : W0.cell? ⟨wr.heap.size, 0, none⟩ = some (.int .i64 x0) := by rw [← hW0]; simp
        have d1 : W0.cell? ⟨wr.heap.size, 1, none⟩ = some (.int .i64 y0) := by rw [← hW0]; simp
        have d2 : W0.cell? ⟨wr.heap.size, 2, none⟩ = some (.int .i64 x1) := by rw [← hW0]; simp
        have d3 : W0.cell? ⟨wr.heap.size, 3, none⟩ = some (.int .i64 y1) := by rw [← hW0]; simp
        have B0 := Lib.hid (show Below w1.heap.size w1 W0 by rw [← hW0]; exact BW.out.alloc BW.out.size _)
        have O0 := Lib.hid (show W0.ownsRow w1.heap.size 3 1 (.slice A9 (K k).length c9) (K k).length (ints (K k)) by rw [← hW0]; exact O.out.alloc _)
        obtain ⟨q, hq⟩ : ∃ q, cutf ⟨⟨x0, y0⟩, ⟨x1, y1⟩⟩ = q := ⟨_, rfl⟩
        rw [hq] at HQ
        have HG := Lib.hid hq
        clear hq
        cases q
        · go_upto_region 8 with fail
          clear hW0 e0 e1 e2 e3 c0 c1 c2 c3
          go_wp2_with fail
          refine (HQ.out W0).mono ?_
          rintro e w2 ⟨rfl, hb⟩
          have B2 := Lib.hid (B0.out.trans (hb.mono B0.out.size))
          have O2 := Lib.hid (own_below O0.out hb)
          clear hb
          go_wp2_with fail
          have HX := HNo.out k _ hx.out (by rw [HQQ.out]; exact HG.out)
          have HX2 := Lib.hid HX
          clear HX
          go_roundw
          case rel => exact ⟨k + 1, A9, c9, by omega, by go_num, by rw [HX2.out], by rw [HX2.out]; exact O2.out, B2.out⟩
          case measure => simp [intOf]; omega
        · go_upto_region 8 with fail
          clear hW0 e0 e1 e2 e3 c0 c1 c2 c3
          go_wp2_with fail
          refine (HQ.out W0).mono ?_
          rintro e w2 ⟨rfl, hb⟩
          have B2 := Lib.hid (B0.out.trans (hb.mono B0.out.size))
          have O2 := Lib.hid (own_below O0.out hb)
          have hle := HLe.out k
          clear hb
          have HX2 := Lib.hid (HYe.out k _ hx.out (by rw [HQQ.out]; exact HG.out))
          go_wp2_with (at_builtin; refine app eInt rfl _ _ rfl rfl (O2.out.alloc _) (B2.out.alloc B2.out.size _) (size_alloc' B2.out.size _) rfl (Rd.one w2 (.int .i64 k) 3 (Nat.lt_succ_self _)) (by simp) (ints_one [(k : Int)]) ((K k).length + 1) rfl (by omega) ?_; intro A4 c4 w4 o4 b4 _ _; have O4 := Lib.hid o4; have B4 := Lib.hid b4; clear o4 b4)
          go_roundw
          case rel => exact ⟨k + 1, A4, c4, by omega, by go_num, by rw [HX2.out, List.length_append]; rfl, by rw [HX2.out, List.length_append, ints_append]; exact O4.out, B4.out⟩
          case measure => simp [intOf]; omega
      · have hks : k = l.length := by omega
        have HK := Lib.hid hks
        clear hks
        go_wp2_with fail
        go_ret2
        exact ⟨A9, c9, by rw [HE.out, cutL, HKK.out, ← HK.out]; rfl, by have := Rd.of_own O.out; rw [HE.out, cutL, HKK.out, ← HK.out]; exact this, BB.out⟩
  · have hcv : cutV l a b = [] := if_neg hv
    rw [hcv]
    generalize sightE l a b = E at *
    have hE : (E == 0) = false := by simpa using hv
    have hE' : (E != 0) = true := by simpa using hv
    clear hv hcv
    unfold Pt.v at *
    go_enter Try.func21, Try.ntmps21
    go_wp2_with fail
    refine (HV.out W RW.out).mono ?_
    rintro e w1 ⟨rfl, hb⟩
    go_wp2_with fail
    go_ret2
    exact ⟨none, 0, rfl, .inl rfl, B.out.trans (hb.mono B.out.size)⟩
end Go.Proofs.Ytcefcpplkcebjaa

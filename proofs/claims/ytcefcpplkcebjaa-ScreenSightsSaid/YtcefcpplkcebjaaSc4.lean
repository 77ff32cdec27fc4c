/-
  The walks of Validate of package screen and of the reference. No condition.
-/
import Derived.Test.YtcefcpplkcebjaaSc3
namespace Go.Proofs.Ytcefcpplkcebjaa
open Go.RowKit
set_option linter.unusedVariables false

def eqP (a b : Pt) : Bool := a.x == b.x && a.y == b.y
theorem fields_pt : ∃ f0 f1 : Field, Try.prog.fieldsOf 23 = #[f0, f1] ∧ f0.type = 3 ∧ f1.type = 3 ∧ f0.offset = 0 ∧ f1.offset = 1 ∧ f0.name = "X" ∧ f1.name = "Y" := by
  have ht : Try.prog.underlying 23 = some (.struct (Try.prog.fieldsOf 23)) := by kernel_rfl
  have h := Try.underlying23.symm.trans ht
  injection h with h
  injection h with h
  exact ⟨_, _, h.symm, rfl, rfl, rfl, rfl, rfl, rfl⟩
theorem eq_in (a b : Pt) (W : World) : (Op.equalIn 10000 23 (.agg #[.int .i64 a.x, .int .i64 a.y]) (.agg #[.int .i64 b.x, .int .i64 b.y])).run Try.prog W = .ok (eqP a b) W := by
  have ht : Try.prog.underlying 23 = some (.struct (Try.prog.fieldsOf 23)) := by kernel_rfl
  have hp : Try.prog.stoodInHeld 23 = false := by kernel_rfl
  rw [run_equalIn_struct _ _ _ _ _ ht hp]
  obtain ⟨f0, f1, hf, t0, t1, o0, o1, n0, n1⟩ := fields_pt
  rw [hf]
  have hi := Try.underlying3
  simp [Op.eqFields, t0, t1, o0, o1, n0, n1, go_sem, hi]
  by_cases h1 : a.x = b.x <;> by_cases h2 : a.y = b.y <;> simp [eqP, h1, h2]
theorem eq_pts (a b : Pt) (W : World) : (binOp .eql 23 (.agg #[.int .i64 a.x, .int .i64 a.y]) (.agg #[.int .i64 b.x, .int .i64 b.y])).run Try.prog W = .ok (.bool (eqP a b)) W := by
  rw [run_eql_struct, eq_in]
  rfl
theorem guard_pts : Try.prog.eqGuardType Try.prog.depth 23 = false := by kernel_rfl
def okS (s : Sg) : Bool := (okP s.a && okP s.b) && !eqP s.a s.b
def valE (l : List Sg) : Int := if 12 < l.length then 3 else if l.all okS then 0 else 1
theorem valE_bad {l : List Sg} (hn : ¬ 12 < l.length) {k : Nat} {s : Sg} (hx : l[k]? = some s) (h : okS s = false) : valE l = 1 := by
  unfold valE
  rw [if_neg hn, if_neg]
  rw [Bool.not_eq_true, List.all_eq_false]
  exact ⟨s, List.mem_of_getElem? hx, by simp [h]⟩
theorem valE_ok {l : List Sg} (hn : ¬ 12 < l.length) (h : ∀ (j : Nat) s, j < l.length → l[j]? = some s → okS s = true) : valE l = 0 := by
  unfold valE
  rw [if_neg hn, if_pos]
  refine List.all_eq_true.2 fun p hp => ?_
  obtain ⟨j, hj, he⟩ := List.getElem_of_mem hp
  exact h j p hj (by rw [← he]; exact List.getElem?_eq_getElem hj)
theorem valE_zero {l : List Sg} (h : valE l = 0) : l.length ≤ 12 ∧ ∀ s ∈ l, okS s = true := by
  unfold valE at h
  split at h
  · cases h
  · split at h
    · rename_i h1 h2
      exact ⟨by omega, fun s hs => List.all_eq_true.1 h2 s hs⟩
    · cases h
theorem okS_pts {s : Sg} (h : okS s = true) : okP s.a = true ∧ okP s.b = true := by
  unfold okS at h
  simp only [Bool.and_eq_true] at h
  exact h.1
theorem Rd.sg {w : World} {B : Nat} {A : Option Addr} {l : List Sg} (h : Rd w B A (l.flatMap Sg.cells)) (k : Nat) (hk : k < l.length) :
    ∃ b o s, A = some ⟨b, o, none⟩ ∧ Hid (l[k]? = some s) ∧ w.cell? ⟨b, o + k * 4, none⟩ = some (.int .i64 s.a.x) ∧ w.cell? ⟨b, o + k * 4 + 1, none⟩ = some (.int .i64 s.a.y) ∧ w.cell? ⟨b, o + k * 4 + 2, none⟩ = some (.int .i64 s.b.x) ∧ w.cell? ⟨b, o + k * 4 + 3, none⟩ = some (.int .i64 s.b.y) := by
  obtain ⟨b, o, p, ha, _, hx, hc⟩ := h.rec sgLen (by decide) k hk
  exact ⟨b, o, p, ha, hx, hc 0 _ rfl, hc 1 _ rfl, hc 2 _ rfl, hc 3 _ rfl⟩
set_option maxRecDepth 4000 in
set_option maxHeartbeats 400000 in
theorem Validate_any (A : Option Addr) (c : Nat) (l : List Sg) (w : World) (hr : Rd w w.heap.size A (l.flatMap Sg.cells)) (hn : l.length ≤ 9223372036854775807) :
    Calls Try.prog 23 #[.slice A l.length c] w fun e w' => e = .returned (.int .i64 (valE l)) ∧ Below w.heap.size w w' := by
  have HR := Lib.hid hr
  clear hr
  by_cases h8 : 12 < l.length
  · have hE : valE l = 3 := if_pos h8
    rw [hE]
    have h8' : (12 : Int) < (l.length : Int) := by omega
    clear hE h8
    go_enter Try.func23, Try.ntmps23
    go_wp2
    go_ret
    exact ⟨rfl, Below.refl _ _⟩
  · have H8 := Lib.hid h8
    have h8' : ¬ (12 : Int) < (l.length : Int) := by omega
    go_enter Try.func23, Try.ntmps23
    go_wp2
    clear h8'
    go_loopw [10] (fun i wr => ∃ k : Nat, k ≤ l.length ∧ i = .int .i64 k ∧ (∀ (j : Nat) s, j < k → l[j]? = some s → okS s = true) ∧ Below w.heap.size w wr) (fun i _ => l.length - (intOf i).toNat)
    case atStart => exact ⟨0, by omega, rfl, fun j x hj => by omega, Below.refl _ _⟩
    case round =>
      obtain ⟨k, hk, rfl, hall, hb⟩ := hrel
      have HA := Lib.hid hall
      have B := Lib.hid hb
      clear hall hb
      by_cases hlt : k < l.length
      · obtain ⟨b, o, ⟨⟨x0, y0⟩, ⟨x1, y1⟩⟩, rfl, hx, c0, c1, c2, c3⟩ := (HR.out.below B.out (Nat.le_refl _)).sg k hlt
        simp only at c0 c1 c2 c3
        obtain ⟨W0, hW0⟩ : ∃ W0, wr.alloc (.cells #[.int .i64 x0, .int .i64 y0, .int .i64 x1, .int .i64 y1] 71) = W0 := ⟨_, rfl⟩
        have d0 : W0.cell? ⟨wr.heap.size, 0, none⟩ = some (.int .i64 x0) := by rw [← hW0]; simp
        have d1 : W0.cell? ⟨wr.heap.size, 1, none⟩ = some (.int .i64 y0) := by rw [← hW0]; simp
        have d2 : W0.cell? ⟨wr.heap.size, 2, none⟩ = some (.int .i64 x1) := by rw [← hW0]; simp
        have d3 : W0.cell? ⟨wr.heap.size, 3, none⟩ = some (.int .i64 y1) := by rw [← hW0]; simp
        have B0 := Lib.hid (show Below w.heap.size w W0 by rw [← hW0]; exact B.out.alloc B.out.size _)
        have S0 : wr.heap.size < W0.heap.size := by rw [← hW0]; simp
        have HV := Lib.hid (fun w => arePoints_lit2 ⟨x0, y0⟩ ⟨x1, y1⟩ w)
        have HE := Lib.hid (fun W => eq_in ⟨x0, y0⟩ ⟨x1, y1⟩ W)
        have HE2 := Lib.hid (fun W => eq_pts ⟨x0, y0⟩ ⟨x1, y1⟩ W)
        have HO := Lib.hid (show okS ⟨⟨x0, y0⟩, ⟨x1, y1⟩⟩ = ((okP ⟨x0, y0⟩ && okP ⟨x1, y1⟩) && !eqP ⟨x0, y0⟩ ⟨x1, y1⟩) from rfl)
        simp only at HV HE HE2
        generalize (okP ⟨x0, y0⟩ && okP ⟨x1, y1⟩) = p at *
        generalize eqP ⟨x0, y0⟩ ⟨x1, y1⟩ = q at *
        cases p
        · go_upto_region 6 with fail
          clear hW0
          go_wp2_with fail
          refine (HV.out _).mono ?_
          rintro e w1 ⟨rfl, hb⟩
          have B1 := Lib.hid (B0.out.trans (hb.mono B0.out.size))
          clear hb
          go_wp2_with fail
          go_ret
          exact ⟨by rw [valE_bad H8.out hx.out HO.out]; rfl, B1.out⟩
        · have e1 := HE.out
          have e2 := HE2.out
          have e3 := guard_pts
          cases q
          · go_upto_region 6 with fail
            clear hW0
            go_wp2_with fail
            refine (HV.out _).mono ?_
            rintro e w1 ⟨rfl, hb⟩
            have B1 := Lib.hid (B0.out.trans (hb.mono B0.out.size))
            obtain ⟨hcc, _⟩ := bcell hb
            clear hb
            go_wp2_with fail
            go_roundw
            case rel => exact ⟨k + 1, by omega, by go_num, fun j s hj hs => by
              rcases Nat.lt_or_ge j k with h | h
              · exact HA.out j s h hs
              · obtain rfl : j = k := by omega
                rw [hx.out] at hs
                cases hs
                exact HO.out, B1.out⟩
            case measure => simp [intOf]; omega
          · go_upto_region 6 with fail
            clear hW0
            go_wp2_with fail
            refine (HV.out _).mono ?_
            rintro e w1 ⟨rfl, hb⟩
            have B1 := Lib.hid (B0.out.trans (hb.mono B0.out.size))
            obtain ⟨hcc, _⟩ := bcell hb
            clear hb
            go_wp2_with fail
            go_ret
            exact ⟨by rw [valE_bad H8.out hx.out HO.out]; rfl, B1.out⟩
      · have hks : k = l.length := by omega
        have HK := Lib.hid hks
        clear hks
        go_wp2_with fail
        go_ret
        exact ⟨by rw [valE_ok H8.out (by rw [← HK.out]; exact HA.out)]; rfl, B.out⟩
end Go.Proofs.Ytcefcpplkcebjaa

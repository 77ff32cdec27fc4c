/-
  Roses: arrays of 32 numbers; the walks of isRose, sum, Sum of package wind and of roseOK, sum, Sum of the reference. No condition.
-/
import Derived.Test.YtnnlbllkckakbaaDoorWi10
import Derived.Test.YtnnlbllkckakbaaDoorIdx
import Derived.Lib.QuietBelow
import Derived.Deep.QuietTactic
import Derived.BigQuiet
namespace Go.Proofs.YtnnlbllkckakbaaDoor
open Go.RowKit
set_option linter.unusedVariables false

theorem rd_grown {w : World} {A : Option Addr} {xs : List Value} (h : Rd w w.heap.size A xs) (d : Nat) (os : Array Obj) : Rd (Go.Sort.grow (redrawn w d) os) (Go.Sort.grow (redrawn w d) os).heap.size A xs :=
  (h.below (below_regrown w d os) (Nat.le_refl _)).more (below_regrown w d os).size
/-- A rose: 32 numbers. -/
def Rose (L : List Int) : Prop := L.length = 32
def rv (L : List Int) : Array Value := (ints L).toArray
theorem rv_at {L : List Int} (h : Rose L) {p : Nat} (hp : p < 32) : (rv L)[p]? = some (.int .i64 (L.getD p 0)) := by
  unfold Rose at h
  unfold rv ints
  rw [List.getElem?_toArray, List.getElem?_map, List.getElem?_eq_getElem (by omega), List.getD_eq_getElem?_getD, List.getElem?_eq_getElem (by omega)]
  rfl
theorem rv_size {L : List Int} (h : Rose L) : (rv L).size = 32 := by unfold Rose at h; simp [rv, ints, h]
theorem Tryd.sizeRose : (Tryd.prog.info? 61).map (·.size) = some 32 := by kernel_rfl
theorem size_rose {L : List Int} (h : Rose L) : (Tryd.prog.info? 61).map (·.size) = some (rv L).size := by rw [rv_size h]; exact Tryd.sizeRose
theorem idx_rose {L : List Int} (h : Rose L) {p : Nat} (hp : p < 32) (w : World) : (Instr.index 61 (.agg (rv L)) (.int .i64 (p : Int))).run Tryd.prog w = .ok (.int .i64 (L.getD p 0)) w := by
  obtain ⟨i0, hi0, _, hz0, _⟩ := info_parts Tryd.eInt.hi
  exact run_index_arr (P := Tryd.prog) Tryd.underlying61 Tryd.underlying3 rfl hi0 hz0 hp (rv_at h hp) w
def okR (n : Int) : Bool := decide (0 ≤ n) && decide (n ≤ 10000)
theorem okR_iff {n : Int} : okR n = true ↔ 0 ≤ n ∧ n ≤ 10000 := by simp [okR]
def roseB (L : List Int) : Bool := L.all okR
theorem roseB_bad {L : List Int} (h : Rose L) {p : Nat} (hp : p < 32) (hb : okR (L.getD p 0) = false) : roseB L = false := by
  unfold Rose at h
  unfold roseB
  rw [List.all_eq_false]
  refine ⟨L.getD p 0, ?_, by rw [hb]; decide⟩
  rw [List.getD_eq_getElem?_getD, List.getElem?_eq_getElem (by omega)]
  exact List.getElem_mem _
theorem roseB_ok {L : List Int} (h : Rose L) (hall : ∀ p, p < 32 → okR (L.getD p 0) = true) : roseB L = true := by
  unfold Rose at h
  unfold roseB
  rw [List.all_eq_true]
  intro x hx
  obtain ⟨j, hj, he⟩ := List.getElem_of_mem hx
  have := hall j (by omega)
  rw [List.getD_eq_getElem?_getD, List.getElem?_eq_getElem hj] at this
  rw [← he]
  exact this
theorem roseB_at {L : List Int} (hb : roseB L = true) (p : Nat) : 0 ≤ L.getD p 0 ∧ L.getD p 0 ≤ 10000 := by
  rcases Nat.lt_or_ge p L.length with h | h
  · rw [List.getD_eq_getElem?_getD, List.getElem?_eq_getElem h]
    exact okR_iff.1 (List.all_eq_true.1 hb _ (List.getElem_mem h))
  · rw [List.getD_eq_getElem?_getD, List.getElem?_eq_none h]
    simp
set_option maxRecDepth 4000 in
theorem isRose_any (L : List Int) (w : World) (hL : Rose L) : Calls Tryd.prog 88 #[.agg (rv L)] w fun e w' => e = .returned (.bool (roseB L)) ∧ Below w.heap.size w w' := by
  obtain ⟨W, hW, hblk, hs, hb0⟩ := one_blk w (rv L) 61
  have B := Lib.hid hb0
  have BK := Lib.hid hblk
  have HI := Lib.hid (fun p w (hp : p < 32) => idx_rose hL hp w)
  have HB := Lib.hid (fun p (hp : p < 32) h => roseB_bad hL hp h)
  have HO := Lib.hid (fun h => roseB_ok hL h)
  have HSz := Lib.hid (size_rose hL)
  clear hb0 hblk hs
  go_enter Tryd.func88, Tryd.ntmps88
  go_wp2_with ((with_reducible show wpList _ _ _ (⟨some 5, _, _, _, _, _⟩ :: _) _ _); refine wpList_load_row rfl 61 (.tmp 1) rfl w.heap.size rfl _ _ _ _ (by first | exact BK.out | (rw [hW]; exact BK.out)) Tryd.underlying61 rfl HSz.out ?_)
  try clear hW
  go_loop [6] (fun i => ∃ k : Nat, k ≤ 32 ∧ i = .int .i64 k ∧ ∀ j, j < k → okR (L.getD j 0) = true) (fun i => 32 - (intOf i).toNat)
  case atStart => exact ⟨0, by omega, rfl, fun j hj => by omega⟩
  case round =>
    obtain ⟨k, hk, rfl, hall⟩ := hrel
    have HA := Lib.hid hall
    clear hall
    by_cases hlt : k < 32
    · have hI := fun w => HI.out k w hlt
      have HBk := Lib.hid (HB.out k hlt)
      have HN := Lib.hid (show okR (L.getD k 0) = true → ∀ j, j < k + 1 → okR (L.getD j 0) = true from fun h j hj => by
        rcases Nat.lt_or_ge j k with h1 | h1
        · exact HA.out j h1
        · obtain rfl : j = k := by omega
          exact h)
      generalize L.getD k 0 = d at *
      by_cases h1 : d < 0
      · have e1 : decide (d < 0) = true := by simpa using h1
        have HE := Lib.hid (HBk.out (by unfold okR; rw [decide_eq_false (by omega)]; rfl))
        clear h1
        go_wp2_with fail
        go_ret
        exact ⟨by rw [HE.out]; rfl, B.out⟩
      · have e1 : decide (d < 0) = false := by simpa using h1
        by_cases h2 : 10000 < d
        · have e2 : decide (10000 < d) = true := by simpa using h2
          have HE := Lib.hid (HBk.out (by unfold okR; rw [decide_eq_false (show ¬ d ≤ 10000 by omega), Bool.and_false]))
          clear h1 h2
          go_wp2_with fail
          go_ret
          exact ⟨by rw [HE.out]; rfl, B.out⟩
        · have e2 : decide (10000 < d) = false := by simpa using h2
          have HE := Lib.hid (HN.out (okR_iff.2 ⟨by omega, by omega⟩))
          clear h1 h2
          go_wp2_with fail
          go_round
          case rel => exact ⟨k + 1, by omega, by go_num, HE.out⟩
          case measure => simp [intOf]; omega
    · obtain rfl : k = 32 := by omega
      have HE := Lib.hid (HO.out HA.out)
      go_wp2_with fail
      go_ret
      exact ⟨by rw [HE.out]; rfl, B.out⟩
def sumK (f : Nat → Bool) (L : List Int) : Nat → Int
  | 0 => 0
  | k + 1 => sumK f L k + if f k then L.getD k 0 else 0
theorem sumK_le {f : Nat → Bool} {L : List Int} (h : roseB L = true) : ∀ k : Nat, 0 ≤ sumK f L k ∧ sumK f L k ≤ 10000 * (k : Int)
  | 0 => by simp [sumK]
  | k + 1 => by
    have ih := sumK_le (f := f) h k
    have h1 := roseB_at h k
    rw [sumK]
    split <;> omega
theorem sumK_congr {f g : Nat → Bool} {L : List Int} : ∀ {k : Nat}, (∀ j, j < k → f j = g j) → sumK f L k = sumK g L k
  | 0, _ => rfl
  | k + 1, h => by rw [sumK, sumK, sumK_congr fun j hj => h j (by omega), h k (by omega)]
theorem sumK_yes {f : Nat → Bool} {L : List Int} {k : Nat} (h : f k = true) : sumK f L (k + 1) = sumK f L k + L.getD k 0 := by rw [sumK, if_pos h]
theorem sumK_no {f : Nat → Bool} {L : List Int} {k : Nat} (h : f k = false) : sumK f L (k + 1) = sumK f L k := by rw [sumK, if_neg (by rw [h]; decide), Int.add_zero]
def roS (a : Pt) (L : List Int) : Int := sumK (hasN a) L 32
theorem roS_bits (a : Pt) (L : List Int) : sumK (arcN a).testBit L 32 = roS a L := sumK_congr fun j hj => by rw [arcN_is, bitK_test _ _ _ hj]
theorem roS_le {a : Pt} {L : List Int} (h : roseB L = true) : 0 ≤ roS a L ∧ roS a L ≤ 320000 := by
  have := sumK_le (f := hasN a) h 32
  unfold roS
  omega
set_option maxRecDepth 4000 in
theorem sum_any (x : Nat) (L : List Int) (w : World) (hx : x < 4294967296) (hL : Rose L) (hb : roseB L = true) :
    Calls Tryd.prog 89 #[.agg (rv L), hasV x] w fun e w' => e = .returned (.int .i64 (sumK x.testBit L 32)) ∧ Below w.heap.size w w' := by
  unfold hasV
  obtain ⟨W, hW, hblk, hs, hb0⟩ := one_blk w (rv L) 61
  have B := Lib.hid hb0
  have BK := Lib.hid hblk
  have HI := Lib.hid (fun p w (hp : p < 32) => idx_rose hL hp w)
  have HSz := Lib.hid (size_rose hL)
  have HH := Lib.hid (fun n w hn => has_any x n w hx hn)
  have HLe := Lib.hid (fun k => sumK_le (f := x.testBit) hb k)
  have HR := Lib.hid (fun k => roseB_at hb k)
  have HY := Lib.hid (fun k h => sumK_yes (f := x.testBit) (L := L) (k := k) h)
  have HN := Lib.hid (fun k h => sumK_no (f := x.testBit) (L := L) (k := k) h)
  clear hb0 hblk hs hb
  go_enter Tryd.func89, Tryd.ntmps89
  go_wp2_with ((with_reducible show wpList _ _ _ (⟨some 8, _, _, _, _, _⟩ :: _) _ _); refine wpList_load_row rfl 61 (.tmp 2) rfl w.heap.size rfl _ _ _ _ (by first | exact BK.out | (rw [hW]; exact BK.out)) Tryd.underlying61 rfl HSz.out ?_)
  try clear hW
  go_loop [5, 9] (fun v i => ∃ k : Nat, k ≤ 32 ∧ i = .int .i64 k ∧ v = .int .i64 (sumK x.testBit L k)) (fun _ i => 32 - (intOf i).toNat)
  case atStart => exact ⟨0, by omega, rfl, rfl⟩
  case round =>
    obtain ⟨k, hk, rfl, rfl⟩ := hrel
    by_cases hlt : k < 32
    · have hI := fun w => HI.out k w hlt
      have HQ := Lib.hid (fun w => HH.out k w hlt)
      have hle := HLe.out k
      have hro := HR.out k
      cases hq : x.testBit k
      · have HS := Lib.hid (HN.out k hq)
        rw [hq] at HQ
        clear hq
        generalize sumK x.testBit L k = S at *
        generalize L.getD k 0 = d at *
        go_wp2_with fail
        refine (HQ.out W).mono ?_
        rintro e w' ⟨rfl, rfl⟩
        go_wp2_with fail
        go_round
        case rel => exact ⟨k + 1, by omega, by go_num, by rw [HS.out]⟩
        case measure => simp [intOf]; omega
      · have HS := Lib.hid (HY.out k hq)
        rw [hq] at HQ
        clear hq
        generalize sumK x.testBit L k = S at *
        generalize L.getD k 0 = d at *
        have e1 : IntKind.i64.wrap (S + d) = S + d := by rw [IntKind.wrap_i64]; omega
        go_wp2_with fail
        refine (HQ.out W).mono ?_
        rintro e w' ⟨rfl, rfl⟩
        go_wp2_with fail
        go_round
        case rel => exact ⟨k + 1, by omega, by go_num, by rw [HS.out]⟩
        case measure => simp [intOf]; omega
    · obtain rfl : k = 32 := by omega
      go_wp2_with fail
      go_ret
      exact ⟨rfl, B.out⟩
def sumE (a : Pt) (L : List Int) : Int := if arcE a = 0 then (if roseB L then 0 else 1) else 1
def sumV (a : Pt) (L : List Int) : Int := if sumE a L = 0 then roS a L else 0
theorem sumE_zero {a : Pt} {L : List Int} (h : sumE a L = 0) : arcE a = 0 ∧ roseB L = true := by
  unfold sumE at h
  split at h
  · rename_i h1
    refine ⟨h1, ?_⟩
    split at h
    · assumption
    · cases h
  · cases h
theorem arcE_one {a : Pt} (h : ¬ arcE a = 0) : arcE a = 1 := by
  unfold arcE at h ⊢
  split
  · rename_i h1
    rw [if_pos h1] at h
    exact absurd rfl h
  · rfl
theorem ld_rose {w : World} {g : Nat} {L : List Int} (hL : Rose L) (h : w.heap[g]? = some (.cells (rv L) 61 (0, 0))) : (Instr.loadAt 61 (.pointer (some ⟨g, 0, none⟩))).run Tryd.prog w = .ok (.agg (rv L)) w := by
  simp only [Instr.loadAt, Instr.sureAddr, Sem.run_bind, Sem.run_pure, Result.andThen]
  exact run_loadVar_row _ _ _ _ _ _ _ h Tryd.underlying61 rfl (size_rose hL)
theorem quiet_load {P : Program} {C : World → Prop} {K : Act → Prop} {a : Act} {o : Oper} (ty : TypeId) (x : Operand) (ho : o.op = .load ty x) (v : Value)
    (hx : ∀ w, C w → (Instr.loadAt ty (a.eval x)).run P w = .ok v w) (h : K (a.put o.dst v)) : o.quiet P a C K := by
  refine ⟨v, fun w hc => ?_, h⟩
  unfold Oper.quietAt execOp
  simp only [ho, Sem.run_bind, hx w hc, Result.andThen, Sem.run_pure]
  exact ⟨rfl, rfl⟩
theorem blk_regrown {w : World} {g : Nat} {o : Obj} (h : w.heap[g]? = some o) (d : Nat) (os : Array Obj) : (Go.Sort.grow (redrawn w d) os).heap[g]? = some o :=
  ((below_regrown w d os).block g (lt_of_block h)).trans h
set_option maxRecDepth 4000 in
theorem Sum_any (L : List Int) (a : Pt) (w : World) (hL : Rose L) : Calls Tryd.prog 52 #[.agg (rv L), a.v] w fun e w' => e = .returned (.tuple #[.int .i64 (sumV a L), .int .i64 (sumE a L)]) ∧ Below w.heap.size w w' := by
  obtain ⟨W1, hW1, hblk1, hs1, hb1⟩ := one_blk w (rv L) 61
  obtain ⟨W2, hW2, h0, h1, hs2, hb2⟩ := one_pt W1 (.int .i64 a.x) (.int .i64 a.y) 23
  have BK := Lib.hid ((hb2.block _ hs1).trans hblk1)
  have F := Lib.hid (And.intro h0 (And.intro h1 hs2))
  have B2 := Lib.hid (hb1.trans (hb2.mono hb1.size))
  have HV := Lib.hid (fun w => ValidateArc_any a w)
  have HRo := Lib.hid (fun w => isRose_any L w hL)
  have HSz := Lib.hid (size_rose hL)
  have HLt := Lib.hid (Nat.lt_trans hs1 hs2)
  clear hblk1 hs1 hb1 hs2 hb2
  by_cases hv : arcE a = 0
  · by_cases hr : roseB L = true
    · have e1 : sumE a L = 0 := by unfold sumE; rw [if_pos hv, if_pos hr]
      have e2 : sumV a L = roS a L := if_pos e1
      have HP := Lib.hid (fun w => pointsOf_any a w hv)
      have HS := Lib.hid (fun w => sum_any (arcN a) L w (arcN_lt a) hL hr)
      rw [roS_bits] at HS
      rw [e1, e2]
      rw [hv] at HV
      rw [hr] at HRo
      clear hv hr e1 e2
      generalize roS a L = S at *
      generalize arcN a = N at *
      obtain ⟨x, y⟩ := a
      unfold Pt.v at *
      simp only at HV HP hW2 h0 h1 F ⊢
      unfold hasV at HS
      go_enter Tryd.func52, Tryd.ntmps52
      go_wp2_with fail
      clear hW1 hW2
      go_wp2_with fail
      refine (HV.out W2).mono ?_
      rintro e w3 ⟨rfl, hb⟩
      have B3 := Lib.hid hb
      have k3 := pt_keep F.out hb
      have BK3 := Lib.hid ((hb.block _ HLt.out).trans BK.out)
      have B4 := Lib.hid (B2.out.trans (hb.mono B2.out.size))
      clear hb h0 h1
      have K3 := Lib.hid k3
      have L3 := Lib.hid (World.block_lt_of_cell? w3 _ k3.1)
      clear k3
      go_wp2_with ((with_reducible show wpList _ _ _ (⟨some 12, _, _, _, _, _⟩ :: _) _ _); refine wpList_load_row rfl 61 (.tmp 2) rfl w.heap.size rfl _ _ _ _ BK3.out Tryd.underlying61 rfl HSz.out ?_)
      refine (HRo.out w3).mono ?_
      rintro e w4 ⟨rfl, hb⟩
      have BK4 := (hb.block _ (lt_of_block BK3.out)).trans BK3.out
      have k4 := pt_keep (And.intro K3.out.1 (And.intro K3.out.2 L3.out)) hb
      have B5 := Lib.hid (B4.out.trans (hb.mono B4.out.size))
      have ld := fun d os => ld_rose hL (blk_regrown BK4 d os)
      have g0 := fun d os => cell_regrown k4.1 d os
      have g1 := fun d os => cell_regrown k4.2 d os
      clear hb BK4 k4
      go_wp2_with fail
      refine wp_region_quiet_below (by kernel_rfl) (by kernel_rfl) ?_
      go_big_quiet_want
      refine quiet_load 61 (.tmp 2) rfl (.agg (rv L)) (fun w' hw' => by obtain ⟨p, rfl⟩ := hw'; exact ld p.d p.os) ?_
      go_simp
      go_big_quiet_on
      repeat (go_big_quiet_step (first | (with_reducible exact Calls.regrown_of (HP.out _)) | (with_reducible exact Calls.regrown_of (HS.out _))))
      refine wpQuiet_nil ?_
      intro _ hw'
      obtain ⟨⟨dq, osq⟩, hw''⟩ := hw'
      subst hw''
      go_wp2_with fail
      go_ret2
      exact ⟨rfl, B5.out.trans ((below_regrown w4 dq osq).mono B5.out.size)⟩
    · have e1 : sumE a L = 1 := by unfold sumE; rw [if_pos hv, if_neg hr]
      have e2 : sumV a L = 0 := by unfold sumV; rw [e1]; rfl
      rw [Bool.not_eq_true] at hr
      rw [e1, e2]
      rw [hv] at HV
      rw [hr] at HRo
      clear hv hr e1 e2
      obtain ⟨x, y⟩ := a
      unfold Pt.v at *
      simp only at HV hW2 h0 h1 F ⊢
      go_enter Tryd.func52, Tryd.ntmps52
      go_wp2_with fail
      clear hW1 hW2
      go_wp2_with fail
      refine (HV.out W2).mono ?_
      rintro e w3 ⟨rfl, hb⟩
      have B3 := Lib.hid hb
      have BK3 := Lib.hid ((hb.block _ HLt.out).trans BK.out)
      have B4 := Lib.hid (B2.out.trans (hb.mono B2.out.size))
      clear hb h0 h1
      go_wp2_with ((with_reducible show wpList _ _ _ (⟨some 12, _, _, _, _, _⟩ :: _) _ _); refine wpList_load_row rfl 61 (.tmp 2) rfl w.heap.size rfl _ _ _ _ BK3.out Tryd.underlying61 rfl HSz.out ?_)
      refine (HRo.out w3).mono ?_
      rintro e w4 ⟨rfl, hb⟩
      go_wp2_with fail
      go_ret2
      exact ⟨rfl, B4.out.trans (hb.mono B4.out.size)⟩
  · have e1 : sumE a L = 1 := if_neg hv
    have e2 : sumV a L = 0 := by unfold sumV; rw [e1]; rfl
    rw [e1, e2]
    rw [arcE_one hv] at HV
    clear hv e1 e2
    obtain ⟨x, y⟩ := a
    unfold Pt.v at *
    simp only at HV hW2 h0 h1 F ⊢
    go_enter Tryd.func52, Tryd.ntmps52
    go_wp2_with fail
    clear hW1 hW2
    go_wp2_with fail
    refine (HV.out W2).mono ?_
    rintro e w3 ⟨rfl, hb⟩
    have B3 := Lib.hid hb
    have B4 := Lib.hid (B2.out.trans (hb.mono B2.out.size))
    clear hb h0 h1
    go_wp2_with fail
    go_ret2
    exact ⟨rfl, B4.out⟩
end Go.Proofs.YtnnlbllkckakbaaDoor

/-
  Balances: the walks of areParts, isBalanced, CheckBalance. Conditions: the lists can be read.
-/
import Derived.Test.YtfmhanpibgmgfaaPu8
namespace Go.Proofs.Ytfmhanpibgmgfaa
open Go.RowKit
set_option linter.unusedVariables false

theorem all_take1 {α : Type} {xs : List α} {k : Nat} {d : α} (h : xs[k]? = some d) (P : α → Bool) : (xs.take (k + 1)).all P = ((xs.take k).all P && P d) := by
  rw [List.take_add_one, h, List.all_append]
  simp
def partsB (xs : List Pt) (m : Nat) : Bool := decide (xs.length ≤ 32) && xs.all (partOk m)
set_option maxRecDepth 8000 in
set_option maxHeartbeats 4000000 in
theorem areParts_any (A : Option Addr) (xs : List Pt) (c : Nat) (Av : Option Addr) (m cv : Nat) (hm0 : 1 ≤ m) (hm : m ≤ 32) (hl : xs.length ≤ 9223372036854775807) (w : World) (hr : Rd w w.heap.size A (xs.flatMap Pt.cells)) :
    Calls Try.prog 89 #[.slice A xs.length c, .slice Av m cv] w fun e w' => e = .returned (.bool (partsB xs m)) ∧ Below w.heap.size w w' := by
  have HR := Lib.hid hr
  have HWh := Lib.hid (fun w => whole_any Av m cv hm0 (by omega) w)
  obtain ⟨k1, hk1⟩ : ∃ k1, m - 1 = k1 := ⟨_, rfl⟩
  have HK1 := Lib.hid hk1
  rw [hk1] at HWh
  clear hr hk1
  by_cases hlen : 32 < xs.length
  · have e1 : decide ((32 : Int) < (xs.length : Int)) = true := decide_eq_true (by omega)
    have e1' : decide (32 < xs.length) = true := decide_eq_true hlen
    have HX := Lib.hid (show partsB xs m = false by unfold partsB; rw [decide_eq_false (by omega)]; rfl)
    generalize xs.length = n at *
    clear hlen
    go_enter Try.func89, Try.ntmps89
    go_wp2_with fail
    go_ret
    exact ⟨by rw [HX.out] <;> rfl, Below.refl _ _⟩
  · have e1 : decide ((32 : Int) < (xs.length : Int)) = false := decide_eq_false (by omega)
    have e1' : decide (32 < xs.length) = false := decide_eq_false hlen
    have HX := Lib.hid (show partsB xs m = xs.all (partOk m) by unfold partsB; rw [decide_eq_true (by omega)]; rfl)
    go_enter Try.func89, Try.ntmps89
    go_wp2_with fail
    go_loopw [12] (fun z wr => ∃ k : Nat, k ≤ xs.length ∧ z = .int .i64 k ∧ (xs.take k).all (partOk m) = true ∧ Below w.heap.size w wr) (fun z _ => xs.length - (intOf z).toNat)
    case atStart => exact ⟨0, by omega, rfl, by simp, Below.refl _ _⟩
    case round =>
      obtain ⟨k, hk, rfl, hall, hb⟩ := hrel
      have HA := Lib.hid hall
      have BW := Lib.hid hb
      clear hall
      by_cases hlt : k < xs.length
      · obtain ⟨b, o, x, rfl, hx, hc0, hc1⟩ := (HR.out.below hb (Nat.le_refl _)).pt k hlt
        clear hb
        obtain ⟨W2, hW2, a0, a1, hs2, hb2⟩ := one_pt wr (.int .i64 x.x) (.int .i64 x.y) 59
        have HW2 := Lib.hid hW2
        have HB2 := Lib.hid (BW.out.trans (hb2.mono BW.out.size))
        have HNx := Lib.hid (all_take1 hx.out (partOk m))
        have HBad := Lib.hid (fun (h : partOk m x = false) => show partsB xs m = false by
          rw [HX.out]
          cases hq : xs.all (partOk m)
          · rfl
          · rw [List.all_eq_true.1 hq x (List.mem_of_getElem? hx.out)] at h
            cases h)
        have b0 : (0 : Int) ≤ (k : Int) := by omega
        have b1 : (k : Int) < (xs.length : Int) := by omega
        have HOk := Lib.hid (show partOk m x = (decide (1 ≤ x.x) && decide (x.x < (m : Int)) && decide (1 ≤ x.y) && decide (x.y ≤ 1000)) from rfl)
        generalize x.x = g at *
        generalize x.y = y at *
        clear hW2 hb2 hx hlen
        have hsz2 : wr.heap.size < W2.heap.size := hs2
        by_cases q1 : g < 1
        · have d1 : decide (g < 1) = true := decide_eq_true q1
          have HZ := Lib.hid (HBad.out (by rw [HOk.out, decide_eq_false (show ¬ 1 ≤ g by omega)]; rfl))
          clear q1
          go_wp2_with fail
          rw [HW2.out]
          go_quiet (fail)
          go_wp2_with fail
          go_ret
          exact ⟨by rw [HZ.out] <;> rfl, bdN' HB2.out _⟩
        · have d1 : decide (g < 1) = false := decide_eq_false q1
          by_cases q2 : (k1 : Int) < g
          · have d2 : decide ((k1 : Int) < g) = true := decide_eq_true q2
            have HZ := Lib.hid (HBad.out (by rw [HOk.out, decide_eq_false (show ¬ g < (m : Int) by have := HK1.out; omega), Bool.and_false]; rfl))
            clear q1 q2
            go_wp2_with fail
            rw [HW2.out]
            go_quiet ((go_at_call 70; first | exact qs (HWh.out _) | exact qs0 (HWh.out _)))
            go_wp2_with fail
            go_ret
            exact ⟨by rw [HZ.out] <;> rfl, bdN' HB2.out _⟩
          · have d2 : decide ((k1 : Int) < g) = false := decide_eq_false q2
            have HG := Lib.hid (show (decide (1 ≤ g) && decide (g < (m : Int))) = true by rw [decide_eq_true (show 1 ≤ g by omega), decide_eq_true (show g < (m : Int) by have := HK1.out; omega)]; rfl)
            rw [HG.out, Bool.true_and] at HOk
            clear q1 q2
            by_cases q3 : y < 1
            · have d3 : decide (y < 1) = true := decide_eq_true q3
              have HZ := Lib.hid (HBad.out (by rw [HOk.out, decide_eq_false (show ¬ 1 ≤ y by omega)]; rfl))
              clear q3
              go_wp2_with fail
              rw [HW2.out]
              go_quiet ((go_at_call 70; first | exact qs (HWh.out _) | exact qs0 (HWh.out _)))
              go_wp2_with fail
              go_ret
              exact ⟨by rw [HZ.out] <;> rfl, bdN' HB2.out _⟩
            · have d3 : decide (y < 1) = false := decide_eq_false q3
              by_cases q4 : 1000 < y
              · have d4 : decide (1000 < y) = true := decide_eq_true q4
                have HZ := Lib.hid (HBad.out (by rw [HOk.out, decide_eq_false (show ¬ y ≤ 1000 by omega), Bool.and_false]))
                clear q3 q4
                go_wp2_with fail
                rw [HW2.out]
                go_quiet ((go_at_call 70; first | exact qs (HWh.out _) | exact qs0 (HWh.out _)))
                go_wp2_with fail
                go_ret
                exact ⟨by rw [HZ.out] <;> rfl, bdN' HB2.out _⟩
              · have d4 : decide (1000 < y) = false := decide_eq_false q4
                have HZ := Lib.hid (show (xs.take (k + 1)).all (partOk m) = true by rw [HNx.out, HA.out, HOk.out, decide_eq_true (show 1 ≤ y by omega), decide_eq_true (show y ≤ 1000 by omega)]; rfl)
                clear q3 q4
                go_wp2_with fail
                rw [HW2.out]
                go_quiet ((go_at_call 70; first | exact qs (HWh.out _) | exact qs0 (HWh.out _)))
                go_wp2_with fail
                go_roundw
                case rel => exact ⟨k + 1, by omega, by go_num, HZ.out, bdN' HB2.out _⟩
                case measure => simp [intOf]; omega
      · have hks : k = xs.length := by omega
        have HZ := Lib.hid (show partsB xs m = true by
          have h := HA.out
          rw [hks, List.take_length] at h
          rw [HX.out, h])
        subst hks
        clear hlt hb
        go_wp2_with fail
        go_ret
        exact ⟨by rw [HZ.out] <;> rfl, BW.out⟩
theorem wt_next {xs : List Pt} {k i : Nat} {x : Pt} (h : xs[k]? = some x) : wtF (xs.take (k + 1)) i = wtF (xs.take k) i + if x.x.toNat.testBit i then x.y else 0 := by
  unfold wtF
  rw [List.take_add_one, h]
  show (List.map _ (xs.take k ++ [x])).sum = _
  rw [List.map_append, List.sum_append]
  simp
theorem wt_le {m : Nat} : ∀ {xs : List Pt} {i : Nat}, xs.all (partOk m) = true → 0 ≤ wtF xs i ∧ wtF xs i ≤ 1000 * (xs.length : Int)
  | [], i, _ => by simp [wtF]
  | x :: r, i, h => by
    rw [List.all_cons, Bool.and_eq_true] at h
    have h1 := wt_le (xs := r) (i := i) h.2
    have h2 := h.1
    unfold partOk at h2
    simp only [Bool.and_eq_true, decide_eq_true_eq] at h2
    unfold wtF at *
    rw [List.map_cons, List.sum_cons, List.length_cons]
    rw [show ((r.length + 1 : Nat) : Int) = (r.length : Int) + 1 by omega]
    split <;> omega
theorem all_takeN {α : Type} {xs : List α} {P : α → Bool} (h : xs.all P = true) (k : Nat) : (xs.take k).all P = true := List.all_eq_true.2 fun x hx => List.all_eq_true.1 h x (List.mem_of_mem_take hx)
set_option maxRecDepth 8000 in
set_option maxHeartbeats 4000000 in
theorem isBalanced_any (den : Int) (A : Option Addr) (xs : List Pt) (c n m : Nat) (hn : n ≤ 5) (hm : m ≤ 32) (hok : partsB xs m = true) (w : World) (hr : Rd w w.heap.size A (xs.flatMap Pt.cells)) :
    Calls Try.prog 90 #[.agg #[.int .i64 den, .slice A xs.length c], .int .i64 (n : Int)] w fun e w' => e = .returned (.bool (balB xs den n)) ∧ Below w.heap.size w w' := by
  have hok' := hok
  unfold partsB at hok'
  rw [Bool.and_eq_true, decide_eq_true_iff] at hok'
  obtain ⟨hx32, hall⟩ := hok'
  obtain ⟨W, hW, h0, h1, hs1, hb0⟩ := one_pt w (.int .i64 den) (.slice A xs.length c) 52
  have HW := Lib.hid hW
  have HB := Lib.hid hb0
  have HR := Lib.hid (hr.below hb0 (Nat.le_refl _))
  obtain ⟨b, hbz⟩ : ∃ b, w.heap.size = b := ⟨_, rfl⟩
  have HBz := Lib.hid hbz
  rw [hbz] at h0 h1 HB hs1 HR
  have H0 := Lib.hid h0
  have H1 := Lib.hid h1
  have HAll := Lib.hid hall
  have HBal := Lib.hid (show balB xs den n = (List.range n).all fun i => decide (wtF xs i = den) from rfl)
  have HNo := Lib.hid (fun (i : Nat) (hi : i < n) (h : wtF xs i ≠ den) => show balB xs den n = false by
    cases hq : balB xs den n
    · rfl
    · exact absurd (of_decide_eq_true (List.all_eq_true.1 hq i (List.mem_range.2 hi))) h)
  have HYes := Lib.hid (fun (h : ∀ i, i < n → wtF xs i = den) => show balB xs den n = true from List.all_eq_true.2 fun i hi => decide_eq_true (h i (List.mem_range.1 hi)))
  generalize balB xs den n = BB at *
  clear hW hb0 hr hbz hok hall HBal
  have HS1 := Lib.hid hs1
  go_enter Try.func90, Try.ntmps90
  go_wp2_with fail
  rw [HW.out, HBz.out]
  go_loopw [10] (fun z wr => ∃ i : Nat, i ≤ n ∧ z = .int .i64 (i : Int) ∧ (∀ j, j < i → wtF xs j = den) ∧ Below W.heap.size W wr) (fun z _ => n - (intOf z).toNat)
  case atStart => exact ⟨0, by omega, rfl, fun j hj => by omega, Below.refl _ _⟩
  case round =>
    obtain ⟨i, hi, rfl, hdone, hb⟩ := hrel
    have HD := Lib.hid hdone
    have BW := Lib.hid hb
    clear hdone
    by_cases hlt : i < n
    · have k1 : wr.cell? ⟨b, 1, none⟩ = some (.slice A xs.length c) := (hb.cell (p := ⟨b, 1, none⟩) hs1).trans H1.out
      have k0 : wr.cell? ⟨b, 0, none⟩ = some (.int .i64 den) := (hb.cell (p := ⟨b, 0, none⟩) hs1).trans H0.out
      have b1 : (i : Int) < (n : Int) := by omega
      clear hb
      obtain ⟨wo, rfl⟩ : ∃ wo : World, wo = wr := ⟨_, rfl⟩
      have BO := Lib.hid (BW.out.size)
      go_wp2_with fail
      go_loopw [6, 16] (fun tv z wr => ∃ k : Nat, k ≤ xs.length ∧ tv = .int .i64 (wtF (xs.take k) i) ∧ z = .int .i64 (k : Int) ∧ Below wo.heap.size wo wr) (fun _ z _ => xs.length - (intOf z).toNat)
      case atStart => exact ⟨0, by omega, rfl, rfl, Below.refl _ _⟩
      case round =>
        obtain ⟨k, hk, rfl, rfl, hb⟩ := hrel
        have BB2 := Lib.hid hb
        by_cases hlt2 : k < xs.length
        · obtain ⟨b2, o2, x, rfl, hx, hc0, hc1⟩ := ((HR.out.below BW.out (Nat.le_of_lt HS1.out)).below hb (by have := BO.out; have := HS1.out; omega)).pt k hlt2
          clear hb
          obtain ⟨W2, hW2, a0, a1, hs2, hb2⟩ := one_pt wr (.int .i64 x.x) (.int .i64 x.y) 59
          have HW2 := Lib.hid hW2
          have HB2 := Lib.hid (BB2.out.trans (hb2.mono BB2.out.size))
          have HNx := Lib.hid (wt_next (i := i) hx.out)
          have hle := wt_le (i := i) (all_takeN HAll.out k)
          have hle2 := wt_le (i := i) (all_takeN HAll.out (k + 1))
          rw [List.length_take] at hle hle2
          have hxok := List.all_eq_true.1 HAll.out x (List.mem_of_getElem? hx.out)
          unfold partOk at hxok
          simp only [Bool.and_eq_true, decide_eq_true_eq] at hxok
          obtain ⟨g, hg⟩ : ∃ g : Nat, x.x = (g : Int) := ⟨x.x.toNat, by omega⟩
          rw [hg] at hc0 a0 HNx hxok HW2
          rw [Int.toNat_natCast] at HNx
          have HIs := Lib.hid (isIn_any i g (by omega) (by omega) W2)
          have c2 : (0 : Int) ≤ (k : Int) := by omega
          have c3 : (k : Int) < (xs.length : Int) := by omega
          generalize x.y = y at *
          clear hW2 hb2 hx hg
          cases ht : g.testBit i
          · rw [ht] at HIs HNx
            have HN2 := Lib.hid (show wtF (xs.take (k + 1)) i = wtF (xs.take k) i by rw [HNx.out]; simp)
            clear hle hle2 hxok ht
            go_wp2_with fail
            rw [HW2.out]
            refine HIs.out.mono ?_
            rintro e w4 ⟨rfl, rfl⟩
            go_wp2_with fail
            go_roundw
            case rel => exact ⟨k + 1, by omega, by rw [HN2.out], by go_num, HB2.out⟩
            case measure => simp [intOf]; omega
          · rw [ht] at HIs HNx
            have HN2 := Lib.hid (show wtF (xs.take (k + 1)) i = wtF (xs.take k) i + y by rw [HNx.out]; simp)
            rw [HN2.out] at hle2
            generalize wtF (xs.take k) i = t at *
            have hq : wrap64 (t + y) = t + y := wrap_mid (by unfold Mid; omega)
            have HQ := Lib.hid hq
            clear hle hle2 hxok ht
            go_wp2_with fail
            rw [HW2.out]
            refine HIs.out.mono ?_
            rintro e w4 ⟨rfl, rfl⟩
            go_wp2_with fail
            go_roundw
            case rel => exact ⟨k + 1, by omega, by rw [HN2.out] <;> first | rfl | (rw [HQ.out] <;> rfl), by go_num, HB2.out⟩
            case measure => simp [intOf]; omega
        · have hks : k = xs.length := by omega
          subst hks
          rw [List.take_length]
          have m0 : wr.cell? ⟨b, 0, none⟩ = some (.int .i64 den) := (hb.cell (p := ⟨b, 0, none⟩) (by have := BO.out; have := HS1.out; show b < _; omega)).trans k0
          have HB3 := Lib.hid (BW.out.trans (hb.mono BO.out))
          clear hb hlt2
          have HNo1 := Lib.hid (HNo.out i hlt)
          have HD1 := Lib.hid (fun (h : wtF xs i = den) j (hj : j < i + 1) => show wtF xs j = den by
            by_cases hji : j = i
            · rw [hji]; exact h
            · exact HD.out j (by omega))
          generalize wtF xs i = t at *
          by_cases he : t = den
          · have e4 : (t != den) = false := by simpa using he
            have HD2 := Lib.hid (HD1.out he)
            clear he
            go_wp2_with fail
            go_roundw
            case rel => exact ⟨i + 1, by omega, by go_num, HD2.out, HB3.out⟩
            case measure => simp [intOf]; omega
          · have e4 : (t != den) = true := by simpa using he
            have HZ := Lib.hid (HNo1.out he)
            have HB4 := Lib.hid (HB.out.trans (HB3.out.mono (Nat.le_of_lt HS1.out)))
            clear he
            go_wp2_with fail
            go_ret
            exact ⟨by rw [HZ.out] <;> rfl, by rw [HBz.out]; exact HB4.out⟩
    · have hin : i = n := by omega
      have HZ := Lib.hid (HYes.out fun j hj => HD.out j (by omega))
      subst hin
      have HB4 := Lib.hid (HB.out.trans (hb.mono (Nat.le_of_lt HS1.out)))
      clear hb hlt
      go_wp2_with fail
      go_ret
      exact ⟨by rw [HZ.out] <;> rfl, by rw [HBz.out]; exact HB4.out⟩
end Go.Proofs.Ytfmhanpibgmgfaa

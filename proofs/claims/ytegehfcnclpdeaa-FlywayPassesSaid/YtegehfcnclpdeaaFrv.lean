/-
  Chains, of the reference: the walks of sum, Validate, places. Condition: the lists can be read.
-/
import Derived.Test.YtegehfcnclpdeaaFwv
namespace Go.Proofs.Ytegehfcnclpdeaa
open Go.RowKit
set_option linter.unusedVariables false

theorem okr_take {l : List Int} (h : Okr l) (k : Nat) : Okr (l.take k) := ⟨by rw [List.length_take]; have := h.1; omega, fun d hd => h.2 d (List.mem_of_mem_take hd)⟩
theorem lsum_bd {l : List Int} (h : Okr l) : 0 ≤ lsum l ∧ lsum l ≤ 15 := by
  have hh : ∀ l : List Int, (∀ d ∈ l, 0 ≤ d ∧ d ≤ 3) → 0 ≤ lsum l ∧ lsum l ≤ 3 * l.length := fun l => by
    induction l with
    | nil => intro _; exact ⟨Int.le_refl 0, Int.le_refl 0⟩
    | cons a l ih =>
      intro hl
      have h1 := hl a (by simp)
      have h2 := ih fun d hd => hl d (by simp [hd])
      show 0 ≤ a + lsum l ∧ a + lsum l ≤ 3 * ((l.length + 1 : Nat) : Int)
      omega
  have := hh l h.2
  have := h.1
  omega
theorem lsum_any0 {l : List Int} (h : ∀ d ∈ l, 0 ≤ d) : ((l.any fun d => decide (0 < d)) = true ↔ lsum l ≠ 0) ∧ 0 ≤ lsum l := by
  induction l with
  | nil => exact ⟨⟨fun h => (by cases h), fun h => absurd rfl h⟩, Int.le_refl 0⟩
  | cons a l ih =>
    have h1 := h a (by simp)
    obtain ⟨h2, h3⟩ := ih fun d hd => h d (by simp [hd])
    have e : lsum (a :: l) = a + lsum l := rfl
    rw [List.any_cons, Bool.or_eq_true, h2, decide_eq_true_iff, e]
    omega
set_option maxRecDepth 8000 in
set_option maxHeartbeats 1000000 in
theorem rsum_any (A : Option Addr) (l : List Int) (c : Nat) (w : World) (hr : Rd w w.heap.size A (ints l)) (hl : Okr l) :
    Calls Try.prog 60 #[.slice A l.length c] w fun e w' => e = .returned (.int .i64 (lsum l)) ∧ w = w' := by
  have HR := Lib.hid hr
  have HB := Lib.hid (fun k => lsum_bd (okr_take hl k))
  have h5 := hl.1
  have HO := Lib.hid hl.2
  have HF := Lib.hid (show lsum (l.take l.length) = lsum l by rw [List.take_length])
  clear hr hl
  go_enter Try.func60, Try.ntmps60
  go_wp2_with fail
  go_loop [3, 4] (fun v z => ∃ k : Nat, k ≤ l.length ∧ v = .int .i64 (lsum (l.take k)) ∧ z = .int .i64 k) (fun _ z => l.length - (intOf z).toNat)
  case atStart => exact ⟨0, by omega, rfl, rfl⟩
  case round =>
    obtain ⟨k, hk, rfl, rfl⟩ := hrel
    by_cases hlt : k < l.length
    · obtain ⟨b, o, d, rfl, hd, hc⟩ := HR.out.int k hlt
      have HS := Lib.hid (show lsum (l.take (k + 1)) = lsum (l.take k) + d by
        rw [List.take_add_one, hd.out]
        exact lsum_snoc _ _)
      have hd3 := HO.out d (List.mem_of_getElem? hd.out)
      have hv := HB.out k
      have b0 : (0 : Int) ≤ (k : Int) := by omega
      have b1 : (k : Int) < (l.length : Int) := by omega
      generalize lsum (l.take k) = v at *
      clear hd
      go_wp2_with fail
      go_round
      case rel => exact ⟨k + 1, by omega, by rw [HS.out] <;> go_num, by go_num⟩
      case measure => simp [intOf]; omega
    · obtain rfl : k = l.length := by omega
      go_wp2_with fail
      go_ret
      exact ⟨rfl, rfl⟩
set_option maxRecDepth 8000 in
set_option maxHeartbeats 2000000 in
theorem RValidate_any (A : Option Addr) (rs : List Rw) (c : Nat) (hs : SzR rs) (hl : rs.length ≤ 9223372036854775807) (w : World) (hr : RdR w w.heap.size A rs) :
    Calls Try.prog 20 #[.slice A rs.length c] w fun e w' => e = .returned (.int .i64 (vdE (rowsL rs))) ∧ w = w' := by
  have HR := Lib.hid hr
  have HSz := Lib.hid hs
  obtain ⟨n, hn⟩ : ∃ n, rs.length = n := ⟨_, rfl⟩
  have hLn : (rowsL rs).length = n := by rw [rows_len, hn]
  have HN := Lib.hid hn
  have HLN := Lib.hid hLn
  have HG := Lib.hid (fun (k : Nat) (A : Option Addr) (c : Nat) (l : List Int) (h : rs[k]? = some (Rw.mk A c l)) => rows_get h)
  generalize rowsL rs = L at *
  rw [hn] at hl ⊢
  clear hr hs hn
  by_cases h0 : n = 0
  · have HX := Lib.hid (show vdE L = 3 from if_pos (by omega))
    subst h0
    clear hLn
    go_enter Try.func20, Try.ntmps20
    go_wp2_with fail
    go_ret
    exact ⟨by rw [HX.out] <;> rfl, rfl⟩
  · have e1 : decide ((n : Int) < 1) = false := decide_eq_false (by omega)
    have e1' : decide (n < 1) = false := decide_eq_false (by omega)
    by_cases h5 : 5 < n
    · have HX := Lib.hid (show vdE L = 3 from if_pos (by omega))
      have e2 : decide ((5 : Int) < (n : Int)) = true := decide_eq_true (by omega)
      have e2' : decide (5 < n) = true := decide_eq_true h5
      clear h5 hLn
      go_enter Try.func20, Try.ntmps20
      go_wp2_with fail
      go_ret
      exact ⟨by rw [HX.out] <;> rfl, rfl⟩
    · have e2 : decide ((5 : Int) < (n : Int)) = false := decide_eq_false (by omega)
      have e2' : decide (5 < n) = false := decide_eq_false h5
      have HX := Lib.hid (show vdE L = if L.all (rowOk n) = true then 0 else 1 by
        unfold vdE
        rw [hLn, if_neg (by omega)])
      have h5' := Lib.hid h5
      clear h5 hLn
      go_enter Try.func20, Try.ntmps20
      go_wp2_with fail
      go_loop [3] (fun z => ∃ k : Nat, k ≤ n ∧ z = .int .i64 k ∧ (L.take k).all (rowOk n) = true) (fun z => n - (intOf z).toNat)
      case atStart => exact ⟨0, by omega, rfl, by simp⟩
      case round =>
        obtain ⟨k, hk, rfl, hall⟩ := hrel
        have HA := Lib.hid hall
        by_cases hlt : k < n
        · obtain ⟨b, o, A', c', l, rfl, hx, c3, hrd⟩ := HR.out.row k (by have := HN.out; omega)
          have HLk := Lib.hid (HG.out k A' c' l hx.out)
          have hsz : l.length ≤ 9223372036854775807 := HSz.out _ (List.mem_of_getElem? hx.out)
          have b0 : (0 : Int) ≤ (k : Int) := by omega
          have b1 : (k : Int) < (n : Int) := by omega
          have HBad := Lib.hid (fun (h : rowOk n l = false) => show vdE L = 1 by
            rw [HX.out, if_neg]
            intro hc
            rw [List.all_eq_true.1 hc l (List.mem_of_getElem? HLk.out)] at h
            cases h)
          have HNx := Lib.hid (all_next HLk.out (rowOk n))
          have HRd := Lib.hid hrd.out
          clear hall hx hrd
          by_cases hln : l.length = n
          · have HLN2 := Lib.hid hln
            have HRS := Lib.hid (fun (hok : Okr l) => rsum_any A' l c' w HRd.out hok)
            rw [hln] at c3 HRS
            have e4 : ((n : Int) != (n : Int)) = false := by simp
            clear hln hsz
            go_wp2_with fail
            go_loop [4] (fun z => ∃ q : Nat, q ≤ n ∧ z = .int .i64 q ∧ (l.take q).all w03 = true) (fun z => n - (intOf z).toNat)
            case atStart => exact ⟨0, by omega, rfl, by simp⟩
            case round =>
              obtain ⟨q, hq, rfl, hal2⟩ := hrel
              have HA2 := Lib.hid hal2
              clear hal2
              by_cases hlq : q < n
              · obtain ⟨b2, o2, d, rfl, hd, hc⟩ := HRd.out.int q (by rw [HLN2.out]; exact hlq)
                have HNq := Lib.hid (all_next hd.out w03)
                have HMd := Lib.hid (List.mem_of_getElem? hd.out)
                have q0 : (0 : Int) ≤ (q : Int) := by omega
                have q1 : (q : Int) < (n : Int) := by omega
                have HBw := Lib.hid (fun (h : w03 d = false) => HBad.out (by
                  cases hc : rowOk n l
                  · rfl
                  · unfold rowOk awB at hc
                    rw [Bool.and_eq_true, Bool.and_eq_true] at hc
                    have := List.all_eq_true.1 hc.2.1 d HMd.out
                    rw [h] at this
                    cases this))
                clear hd
                by_cases h1 : d < 0
                · have e5 : decide (d < 0) = true := decide_eq_true h1
                  have HZ := Lib.hid (HBw.out (by unfold w03; rw [decide_eq_false (show ¬ 0 ≤ d by omega)]; rfl))
                  clear h1
                  go_wp2_with fail
                  go_ret
                  exact ⟨by rw [HZ.out] <;> rfl, rfl⟩
                · have e5 : decide (d < 0) = false := decide_eq_false h1
                  by_cases h3 : 3 < d
                  · have e6 : decide (3 < d) = true := decide_eq_true h3
                    have HZ := Lib.hid (HBw.out (by unfold w03; rw [decide_eq_false (show ¬ d ≤ 3 by omega), Bool.and_false]))
                    clear h1 h3
                    go_wp2_with fail
                    go_ret
                    exact ⟨by rw [HZ.out] <;> rfl, rfl⟩
                  · have e6 : decide (3 < d) = false := decide_eq_false h3
                    have HZ := Lib.hid (show w03 d = true by unfold w03; rw [decide_eq_true (show 0 ≤ d by omega), decide_eq_true (show d ≤ 3 by omega)]; rfl)
                    clear h1 h3
                    go_wp2_with fail
                    go_round
                    case rel => exact ⟨q + 1, by omega, by go_num, by rw [HNq.out, HA2.out, HZ.out]; rfl⟩
                    case measure => simp [intOf]; omega
              · obtain rfl : q = n := by omega
                have hal := HA2.out
                rw [List.take_of_length_le (by rw [HLN2.out]; exact Nat.le_refl _)] at hal
                have hok : Okr l := ⟨by rw [HLN2.out]; have := h5'.out; omega, fun d hd => by
                  have := List.all_eq_true.1 hal d hd
                  unfold w03 at this
                  rw [Bool.and_eq_true, decide_eq_true_iff, decide_eq_true_iff] at this
                  exact this⟩
                have HRS2 := Lib.hid (HRS.out hok)
                obtain ⟨ha, hb⟩ := lsum_any0 fun d hd => (hok.2 d hd).1
                have HRow := Lib.hid (show rowOk q l = true ↔ lsum l ≠ 0 by
                  unfold rowOk awB
                  rw [decide_eq_true HLN2.out, hal, Bool.true_and, Bool.true_and]
                  exact ha)
                clear hal ha hb hok
                by_cases hz : lsum l = 0
                · have HZ := Lib.hid (HBad.out (by
                    cases hc : rowOk q l
                    · rfl
                    · exact absurd hz (HRow.out.1 hc)))
                  rw [hz] at HRS2
                  clear hz
                  go_wp2_with fail
                  refine HRS2.out.mono ?_
                  rintro e w' ⟨rfl, rfl⟩
                  go_wp2_with fail
                  go_ret
                  exact ⟨by rw [HZ.out] <;> rfl, rfl⟩
                · have HZ := Lib.hid (HRow.out.2 hz)
                  have e7 : (lsum l == 0) = false := by simpa using hz
                  generalize lsum l = v at *
                  clear hz
                  go_wp2_with fail
                  refine HRS2.out.mono ?_
                  rintro e w' ⟨rfl, rfl⟩
                  go_wp2_with fail
                  go_round
                  case rel => exact ⟨k + 1, by omega, by go_num, by rw [HNx.out, HA.out, HZ.out]; rfl⟩
                  case measure => simp [intOf]; omega
          · have e3 : ((l.length : Int) != (n : Int)) = true := by simp; omega
            have e3' : (l.length != n) = true := by simp; omega
            have HB1 := Lib.hid (HBad.out (by unfold rowOk; rw [decide_eq_false hln]; rfl))
            clear hln
            generalize l.length = m at *
            go_wp2_with fail
            go_ret
            exact ⟨by rw [HB1.out] <;> rfl, rfl⟩
        · have hkn : k = n := by omega
          subst hkn
          rw [List.take_of_length_le (by have := HLN.out; omega)] at hall
          have HZ := Lib.hid (show vdE L = 0 by rw [HX.out, if_pos hall])
          clear hlt hall
          go_wp2_with fail
          go_ret
          exact ⟨by rw [HZ.out] <;> rfl, rfl⟩
set_option maxRecDepth 8000 in
set_option maxHeartbeats 1000000 in
theorem places_any (A : Option Addr) (rs : List Rw) (c : Nat) (hs : SzR rs) (hl : rs.length ≤ 9223372036854775807) (Ap : Option Addr) (ps : List Int) (cp : Nat) (hp : ps.length ≤ 9223372036854775807) (w : World) (hr : RdR w w.heap.size A rs) (hrp : Rd w w.heap.size Ap (ints ps)) :
    Calls Try.prog 57 #[.slice A rs.length c, .slice Ap ps.length cp] w fun e w' => e = .returned (.int .i64 (ckE (rowsL rs) ps)) ∧ w = w' := by
  have HV := Lib.hid (RValidate_any A rs c hs hl w hr)
  have HRP := Lib.hid hrp
  have HLN := Lib.hid (rows_len rs)
  generalize rowsL rs = L at *
  generalize rs.length = n at *
  clear hr hs hrp
  by_cases hv : vdE L = 0
  · rw [hv] at HV
    have HX := Lib.hid (show ckE L ps = if ps.all (inN n) = true then 0 else 4 by unfold ckE; rw [if_pos hv, HLN.out])
    clear hv
    go_enter Try.func57, Try.ntmps57
    go_wp2_with fail
    refine HV.out.mono ?_
    rintro e w' ⟨rfl, rfl⟩
    go_wp2_with fail
    go_loop [6] (fun z => ∃ k : Nat, k ≤ ps.length ∧ z = .int .i64 k ∧ (ps.take k).all (inN n) = true) (fun z => ps.length - (intOf z).toNat)
    case atStart => exact ⟨0, by omega, rfl, by simp⟩
    case round =>
      obtain ⟨k, hk, rfl, hall⟩ := hrel
      have HA := Lib.hid hall
      by_cases hlt : k < ps.length
      · obtain ⟨b, o, d, rfl, hd, hc⟩ := HRP.out.int k hlt
        have HNx := Lib.hid (all_next hd.out (inN n))
        have HBad := Lib.hid (fun (h : inN n d = false) => show ckE L ps = 4 by
          rw [HX.out, if_neg]
          intro hc
          rw [List.all_eq_true.1 hc d (List.mem_of_getElem? hd.out)] at h
          cases h)
        have b0 : (0 : Int) ≤ (k : Int) := by omega
        have b1 : (k : Int) < (ps.length : Int) := by omega
        clear hd hall
        by_cases h1 : d < 0
        · have e1 : decide (d < 0) = true := decide_eq_true h1
          have HB := Lib.hid (HBad.out (by unfold inN; rw [decide_eq_false (show ¬ 0 ≤ d by omega)]; rfl))
          clear h1
          go_wp2_with fail
          go_ret
          exact ⟨by rw [HB.out] <;> rfl, rfl⟩
        · have e1 : decide (d < 0) = false := decide_eq_false h1
          by_cases h3 : (n : Int) ≤ d
          · have e3 : decide ((n : Int) ≤ d) = true := decide_eq_true h3
            have HB := Lib.hid (HBad.out (by unfold inN; rw [decide_eq_false (show ¬ d < (n : Int) by omega), Bool.and_false]))
            clear h1 h3
            go_wp2_with fail
            go_ret
            exact ⟨by rw [HB.out] <;> rfl, rfl⟩
          · have e3 : decide ((n : Int) ≤ d) = false := decide_eq_false h3
            have HG := Lib.hid (show inN n d = true by unfold inN; rw [decide_eq_true (show 0 ≤ d by omega), decide_eq_true (show d < (n : Int) by omega)]; rfl)
            clear h1 h3
            go_wp2_with fail
            go_round
            case rel => exact ⟨k + 1, by omega, by go_num, by rw [HNx.out, HA.out, HG.out]; rfl⟩
            case measure => simp [intOf]; omega
      · have hkn : k = ps.length := by omega
        subst hkn
        rw [List.take_length] at hall
        have HZ := Lib.hid (show ckE L ps = 0 by rw [HX.out, if_pos hall])
        clear hlt hall
        go_wp2_with fail
        go_ret
        exact ⟨by rw [HZ.out] <;> rfl, rfl⟩
  · have e1 : (vdE L != 0) = true := by simpa using hv
    have HX := Lib.hid (show ckE L ps = vdE L from if_neg hv)
    clear hv
    generalize vdE L = E at *
    go_enter Try.func57, Try.ntmps57
    go_wp2_with fail
    refine HV.out.mono ?_
    rintro e w' ⟨rfl, rfl⟩
    go_wp2_with fail
    go_ret
    exact ⟨by rw [HX.out] <;> rfl, rfl⟩
end Go.Proofs.Ytegehfcnclpdeaa

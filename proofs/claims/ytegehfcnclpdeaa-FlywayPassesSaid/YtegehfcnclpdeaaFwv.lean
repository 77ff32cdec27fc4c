/-
  Chains: the walks of areWeights, Validate, check, checkSure of the program. Condition: the lists can be read.
-/
import Derived.Test.YtegehfcnclpdeaaFwu
namespace Go.Proofs.Ytegehfcnclpdeaa
open Go.RowKit
set_option linter.unusedVariables false

def w03 (d : Int) : Bool := decide (0 ≤ d) && decide (d ≤ 3)
def awB (l : List Int) : Bool := l.all w03 && l.any fun d => decide (0 < d)
theorem getN {xs : List Int} {k : Nat} {d : Int} (h : xs[k]? = some d) (P : Int → Bool) : (xs.take (k + 1)).all P = ((xs.take k).all P && P d) ∧ (xs.take (k + 1)).any P = ((xs.take k).any P || P d) := by
  rw [List.take_add_one, h, List.all_append, List.any_append]
  simp
set_option maxRecDepth 8000 in
set_option maxHeartbeats 1000000 in
theorem areWeights_any (A : Option Addr) (l : List Int) (c : Nat) (w : World) (hr : Rd w w.heap.size A (ints l)) (hl : l.length ≤ 9223372036854775807) :
    Calls Try.prog 59 #[.slice A l.length c] w fun e w' => e = .returned (.bool (awB l)) ∧ w = w' := by
  have HR := Lib.hid hr
  clear hr
  go_enter Try.func59, Try.ntmps59
  go_wp2_with fail
  go_loop [3, 8] (fun v z => ∃ k : Nat, k ≤ l.length ∧ v = .bool ((l.take k).any fun d => decide (0 < d)) ∧ z = .int .i64 k ∧ (l.take k).all w03 = true) (fun _ z => l.length - (intOf z).toNat)
  case atStart => exact ⟨0, by omega, by simp, rfl, by simp⟩
  case round =>
    obtain ⟨k, hk, rfl, rfl, hall⟩ := hrel
    have HA := Lib.hid hall
    by_cases hlt : k < l.length
    · obtain ⟨b, o, d, rfl, hd, hc⟩ := HR.out.int k hlt
      have HD := Lib.hid (getN hd.out)
      have HM := Lib.hid (List.mem_of_getElem? hd.out)
      have b0 : (0 : Int) ≤ (k : Int) := by omega
      have b1 : (k : Int) < (l.length : Int) := by omega
      clear hd hall
      by_cases h1 : d < 0
      · have e1 : decide (d < 0) = true := decide_eq_true h1
        have HX := Lib.hid (show awB l = false by
          cases hc : awB l
          · rfl
          · unfold awB at hc
            rw [Bool.and_eq_true] at hc
            have := List.all_eq_true.1 hc.1 d HM.out
            unfold w03 at this
            rw [Bool.and_eq_true, decide_eq_true_iff] at this
            omega)
        clear h1
        go_wp2_with fail
        go_ret
        exact ⟨by rw [HX.out] <;> rfl, rfl⟩
      · have e1 : decide (d < 0) = false := decide_eq_false h1
        by_cases h3 : 3 < d
        · have e3 : decide (3 < d) = true := decide_eq_true h3
          have HX := Lib.hid (show awB l = false by
            cases hc : awB l
            · rfl
            · unfold awB at hc
              rw [Bool.and_eq_true] at hc
              have := List.all_eq_true.1 hc.1 d HM.out
              unfold w03 at this
              rw [Bool.and_eq_true, decide_eq_true_iff, decide_eq_true_iff] at this
              omega)
          clear h1 h3
          go_wp2_with fail
          go_ret
          exact ⟨by rw [HX.out] <;> rfl, rfl⟩
        · have e3 : decide (3 < d) = false := decide_eq_false h3
          have HN1 := Lib.hid (show (l.take (k + 1)).all w03 = true by
            rw [(HD.out w03).1, HA.out]
            unfold w03
            simp
            omega)
          have HN2 := Lib.hid ((HD.out fun d => decide (0 < d)).2)
          clear h1 h3
          generalize (l.take k).any (fun d => decide (0 < d)) = x at *
          cases x
          · cases e4 : decide (0 < d)
            · rw [e4] at HN2
              go_wp2_with fail
              go_round
              case rel => exact ⟨k + 1, by omega, by rw [HN2.out]; rfl, by go_num, HN1.out⟩
              case measure => simp [intOf]; omega
            · rw [e4] at HN2
              go_wp2_with fail
              go_round
              case rel => exact ⟨k + 1, by omega, by rw [HN2.out]; rfl, by go_num, HN1.out⟩
              case measure => simp [intOf]; omega
          · go_wp2_with fail
            go_round
            case rel => exact ⟨k + 1, by omega, by rw [HN2.out]; rfl, by go_num, HN1.out⟩
            case measure => simp [intOf]; omega
    · have hkn : k = l.length := by omega
      subst hkn
      have HX := Lib.hid (show (l.take l.length).any (fun d => decide (0 < d)) = awB l by
        rw [List.take_length] at hall ⊢
        unfold awB
        rw [hall]
        rfl)
      rw [HX.out]
      clear hlt hall
      go_wp2_with fail
      go_ret
      exact ⟨rfl, rfl⟩
def rowOk (n : Nat) (r : List Int) : Bool := decide (r.length = n) && awB r
def vdE (L : List (List Int)) : Int := if L.length = 0 ∨ 5 < L.length then 3 else if L.all (rowOk L.length) = true then 0 else 1
theorem rows_get {rs : List Rw} {k c : Nat} {A : Option Addr} {l : List Int} (h : rs[k]? = some ⟨A, c, l⟩) : (rowsL rs)[k]? = some l := by
  unfold rowsL
  rw [List.getElem?_map, h]
  rfl
theorem rows_len (rs : List Rw) : (rowsL rs).length = rs.length := by simp [rowsL]
theorem all_next {α : Type} {xs : List α} {k : Nat} {d : α} (h : xs[k]? = some d) (P : α → Bool) : (xs.take (k + 1)).all P = ((xs.take k).all P && P d) := by
  rw [List.take_add_one, h, List.all_append]
  simp
/-- Sizes that a machine holds. -/
def SzR (rs : List Rw) : Prop := ∀ r ∈ rs, r.l.length ≤ 9223372036854775807
set_option maxRecDepth 8000 in
set_option maxHeartbeats 1000000 in
theorem Validate_any (A : Option Addr) (rs : List Rw) (c : Nat) (hs : SzR rs) (hl : rs.length ≤ 9223372036854775807) (w : World) (hr : RdR w w.heap.size A rs) :
    Calls Try.prog 19 #[.slice A rs.length c] w fun e w' => e = .returned (.int .i64 (vdE (rowsL rs))) ∧ w = w' := by
  have HR := Lib.hid hr
  have HSz := Lib.hid hs
  obtain ⟨n, hn⟩ : ∃ n, rs.length = n := ⟨_, rfl⟩
  have hLn : (rowsL rs).length = n := by rw [rows_len, hn]
  have HN := Lib.hid hn
  have HLN := Lib.hid hLn
  have HG := Lib.hid (fun (k : Nat) (A : Option Addr) (c : Nat) (l : List Int) (h : rs[k]? = some (Rw.mk A c l)) => rows_get h)
  generalize rowsL rs = L at *
  rw [hn] at hl ⊢
  clear hr hs hn
  by_cases h0 : n = 0
  · have HX := Lib.hid (show vdE L = 3 from if_pos (by omega))
    have e1 : ((n : Int) == 0) = true := by simp; omega
    have e1' : (n == 0) = true := by simpa using h0
    clear h0 hLn
    go_enter Try.func19, Try.ntmps19
    go_wp2_with fail
    go_ret
    exact ⟨by rw [HX.out] <;> rfl, rfl⟩
  · have e1 : ((n : Int) == 0) = false := by simp; omega
    have e1' : (n == 0) = false := by simpa using h0
    by_cases h5 : 5 < n
    · have HX := Lib.hid (show vdE L = 3 from if_pos (by omega))
      have e2 : decide ((5 : Int) < (n : Int)) = true := decide_eq_true (by omega)
      have e2' : decide (5 < n) = true := decide_eq_true h5
      clear h0 h5 hLn
      go_enter Try.func19, Try.ntmps19
      go_wp2_with fail
      go_ret
      exact ⟨by rw [HX.out] <;> rfl, rfl⟩
    · have e2 : decide ((5 : Int) < (n : Int)) = false := decide_eq_false (by omega)
      have e2' : decide (5 < n) = false := decide_eq_false h5
      have HX := Lib.hid (show vdE L = if L.all (rowOk n) = true then 0 else 1 by
        unfold vdE
        rw [hLn, if_neg (by omega)])
      clear h0 h5 hLn
      go_enter Try.func19, Try.ntmps19
      go_wp2_with fail
      go_loop [15] (fun z => ∃ k : Nat, k ≤ n ∧ z = .int .i64 k ∧ (L.take k).all (rowOk n) = true) (fun z => n - (intOf z).toNat)
      case atStart => exact ⟨0, by omega, rfl, by simp⟩
      case round =>
        obtain ⟨k, hk, rfl, hall⟩ := hrel
        have HA := Lib.hid hall
        by_cases hlt : k < n
        · obtain ⟨b, o, A', c', l, rfl, hx, c3, hrd⟩ := HR.out.row k (by have := HN.out; omega)
          have HLk := Lib.hid (HG.out k A' c' l hx.out)
          have hsz : l.length ≤ 9223372036854775807 := HSz.out _ (List.mem_of_getElem? hx.out)
          have b0 : (0 : Int) ≤ (k : Int) := by omega
          have b1 : (k : Int) < (n : Int) := by omega
          have HW := Lib.hid (areWeights_any A' l c' w hrd.out hsz)
          have HBad := Lib.hid (fun (h : rowOk n l = false) => show vdE L = 1 by
            rw [HX.out, if_neg]
            intro hc
            rw [List.all_eq_true.1 hc l (List.mem_of_getElem? HLk.out)] at h
            cases h)
          have HNx := Lib.hid (all_next HLk.out (rowOk n))
          clear hall hx
          by_cases hln : l.length = n
          · have e3 : ((l.length : Int) != (n : Int)) = false := by simp; omega
            have e3' : (l.length != n) = false := by simp; omega
            obtain ⟨x, hx⟩ : ∃ x, awB l = x := ⟨_, rfl⟩
            have HOK := Lib.hid (show rowOk n l = x by unfold rowOk; rw [decide_eq_true hln, hx]; rfl)
            rw [hx] at HW
            clear hx
            rw [hln] at c3 HW
            have e4 : ((n : Int) != (n : Int)) = false := by simp
            clear e3 e3' hln hsz
            cases x
            · go_wp2_with fail
              refine HW.out.mono ?_
              rintro e w' ⟨rfl, rfl⟩
              go_wp2_with fail
              go_ret
              exact ⟨by rw [HBad.out HOK.out] <;> rfl, rfl⟩
            · go_wp2_with fail
              refine HW.out.mono ?_
              rintro e w' ⟨rfl, rfl⟩
              go_wp2_with fail
              go_round
              case rel => exact ⟨k + 1, by omega, by go_num, by rw [HNx.out, HA.out, HOK.out]; rfl⟩
              case measure => simp [intOf]; omega
          · have e3 : ((l.length : Int) != (n : Int)) = true := by simp; omega
            have e3' : (l.length != n) = true := by simp; omega
            have HB1 := Lib.hid (HBad.out (by unfold rowOk; rw [decide_eq_false hln]; rfl))
            clear hln
            generalize l.length = m at *
            go_wp2_with fail
            go_ret
            exact ⟨by rw [HB1.out] <;> rfl, rfl⟩
        · have hkn : k = n := by omega
          subst hkn
          rw [List.take_of_length_le (by have := HLN.out; omega)] at hall
          have HZ := Lib.hid (show vdE L = 0 by rw [HX.out, if_pos hall])
          clear hlt hall
          go_wp2_with fail
          go_ret
          exact ⟨by rw [HZ.out] <;> rfl, rfl⟩
/-- What a chain is. -/
theorem vdE_ok {rs : List Rw} (h : vdE (rowsL rs) = 0) : (1 ≤ rs.length ∧ rs.length ≤ 5) ∧ (∀ r ∈ rs, r.l.length = rs.length) ∧ (∀ r ∈ rs, Okr r.l) ∧ ∀ r ∈ rs, ∃ d ∈ r.l, 0 < d := by
  unfold vdE at h
  rw [rows_len] at h
  split at h
  · cases h
  · rename_i h1
    split at h
    · rename_i h2
      have hall : ∀ r ∈ rs, r.l.length = rs.length ∧ awB r.l = true := fun r hr => by
        have := List.all_eq_true.1 h2 r.l (List.mem_map.2 ⟨r, hr, rfl⟩)
        unfold rowOk at this
        rw [Bool.and_eq_true, decide_eq_true_iff] at this
        exact this
      refine ⟨by omega, fun r hr => (hall r hr).1, fun r hr => ⟨by have := (hall r hr).1; omega, fun d hd => ?_⟩, fun r hr => ?_⟩
      · have := (hall r hr).2
        unfold awB at this
        rw [Bool.and_eq_true] at this
        have := List.all_eq_true.1 this.1 d hd
        unfold w03 at this
        rw [Bool.and_eq_true, decide_eq_true_iff, decide_eq_true_iff] at this
        exact this
      · have := (hall r hr).2
        unfold awB at this
        rw [Bool.and_eq_true] at this
        obtain ⟨d, hd, h3⟩ := List.any_eq_true.1 this.2
        exact ⟨d, hd, of_decide_eq_true h3⟩
    · cases h
def inN (n : Nat) (i : Int) : Bool := decide (0 ≤ i) && decide (i < (n : Int))
def ckE (L : List (List Int)) (ps : List Int) : Int := if vdE L = 0 then (if ps.all (inN L.length) = true then 0 else 4) else vdE L
set_option maxRecDepth 8000 in
set_option maxHeartbeats 1000000 in
theorem check_any (A : Option Addr) (rs : List Rw) (c : Nat) (hs : SzR rs) (hl : rs.length ≤ 9223372036854775807) (Ap : Option Addr) (ps : List Int) (cp : Nat) (hp : ps.length ≤ 9223372036854775807) (w : World) (hr : RdR w w.heap.size A rs) (hrp : Rd w w.heap.size Ap (ints ps)) :
    Calls Try.prog 55 #[.slice A rs.length c, .slice Ap ps.length cp] w fun e w' => e = .returned (.int .i64 (ckE (rowsL rs) ps)) ∧ w = w' := by
  have HV := Lib.hid (Validate_any A rs c hs hl w hr)
  have HRP := Lib.hid hrp
  have HLN := Lib.hid (rows_len rs)
  generalize rowsL rs = L at *
  generalize rs.length = n at *
  clear hr hs hrp
  by_cases hv : vdE L = 0
  · rw [hv] at HV
    have HX := Lib.hid (show ckE L ps = if ps.all (inN n) = true then 0 else 4 by unfold ckE; rw [if_pos hv, HLN.out])
    clear hv
    go_enter Try.func55, Try.ntmps55
    go_wp2_with fail
    refine HV.out.mono ?_
    rintro e w' ⟨rfl, rfl⟩
    go_wp2_with fail
    go_loop [15] (fun z => ∃ k : Nat, k ≤ ps.length ∧ z = .int .i64 k ∧ (ps.take k).all (inN n) = true) (fun z => ps.length - (intOf z).toNat)
    case atStart => exact ⟨0, by omega, rfl, by simp⟩
    case round =>
      obtain ⟨k, hk, rfl, hall⟩ := hrel
      have HA := Lib.hid hall
      by_cases hlt : k < ps.length
      · obtain ⟨b, o, d, rfl, hd, hc⟩ := HRP.out.int k hlt
        have HNx := Lib.hid (all_next hd.out (inN n))
        have HBad := Lib.hid (fun (h : inN n d = false) => show ckE L ps = 4 by
          rw [HX.out, if_neg]
          intro hc
          rw [List.all_eq_true.1 hc d (List.mem_of_getElem? hd.out)] at h
          cases h)
        have b0 : (0 : Int) ≤ (k : Int) := by omega
        have b1 : (k : Int) < (ps.length : Int) := by omega
        clear hd hall
        by_cases h1 : d < 0
        · have e1 : decide (d < 0) = true := decide_eq_true h1
          have HB := Lib.hid (HBad.out (by unfold inN; rw [decide_eq_false (show ¬ 0 ≤ d by omega)]; rfl))
          clear h1
          go_wp2_with fail
          go_ret
          exact ⟨by rw [HB.out] <;> rfl, rfl⟩
        · have e1 : decide (d < 0) = false := decide_eq_false h1
          by_cases h3 : (n : Int) ≤ d
          · have e3 : decide ((n : Int) ≤ d) = true := decide_eq_true h3
            have HB := Lib.hid (HBad.out (by unfold inN; rw [decide_eq_false (show ¬ d < (n : Int) by omega), Bool.and_false]))
            clear h1 h3
            go_wp2_with fail
            go_ret
            exact ⟨by rw [HB.out] <;> rfl, rfl⟩
          · have e3 : decide ((n : Int) ≤ d) = false := decide_eq_false h3
            have HG := Lib.hid (show inN n d = true by unfold inN; rw [decide_eq_true (show 0 ≤ d by omega), decide_eq_true (show d < (n : Int) by omega)]; rfl)
            clear h1 h3
            go_wp2_with fail
            go_round
            case rel => exact ⟨k + 1, by omega, by go_num, by rw [HNx.out, HA.out, HG.out]; rfl⟩
            case measure => simp [intOf]; omega
      · have hkn : k = ps.length := by omega
        subst hkn
        rw [List.take_length] at hall
        have HZ := Lib.hid (show ckE L ps = 0 by rw [HX.out, if_pos hall])
        clear hlt hall
        go_wp2_with fail
        go_ret
        exact ⟨by rw [HZ.out] <;> rfl, rfl⟩
  · have e1 : (vdE L != 0) = true := by simpa using hv
    have HX := Lib.hid (show ckE L ps = vdE L from if_neg hv)
    clear hv
    generalize vdE L = E at *
    go_enter Try.func55, Try.ntmps55
    go_wp2_with fail
    refine HV.out.mono ?_
    rintro e w' ⟨rfl, rfl⟩
    go_wp2_with fail
    go_ret
    exact ⟨by rw [HX.out] <;> rfl, rfl⟩
end Go.Proofs.Ytegehfcnclpdeaa

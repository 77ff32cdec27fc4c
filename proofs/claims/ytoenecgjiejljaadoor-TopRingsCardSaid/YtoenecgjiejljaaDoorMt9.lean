/-
  Texts merged into one (Dg2, Sum): contracts of the functions of package lure, what is reckoned of games. Conditions: as each says.
-/
import Derived.Test.YtoenecgjiejljaaDoorMt8
import Derived.Test.YtoenecgjiejljaaDoorMt3
namespace Go.Proofs.YtoenecgjiejljaaDoor
open Go.RowKit
set_option linter.unusedVariables false

def timesV (x y : Int) : Int := if isDig x && isDig y then mulD x y else 0
def timesE (x y : Int) : Int := if isDig x && isDig y then 0 else 1
def undoV (x : Int) : Int := if isDig x then invD x else 0
def undoE (x : Int) : Int := if isDig x then 0 else 1
def turnOk (x n : Int) : Bool := isDig x && decide (0 ≤ n) && decide (n ≤ 1000)
def turnV (x n : Int) : Int := if turnOk x n then turnN n.toNat x else 0
def turnE (x n : Int) : Int := if turnOk x n then 0 else 1

theorem Times_any (x y : Int) (w : World) (ht : TabsR w) :
    Calls Tryd.prog 49 #[.int .i64 x, .int .i64 y] w fun e w' => e = .returned (.tuple #[.int .i64 (timesV x y), .int .i64 (timesE x y)]) ∧ w = w' := by
  unfold timesV timesE
  by_cases h : (isDig x && isDig y) = true
  · have h' : Dig x ∧ Dig y := by simpa [isDig_iff] using h
    rw [if_pos h, if_pos h]
    exact Times_ok x y w h'.1 h'.2 ht
  · rw [if_neg h, if_neg h]
    exact Times_bad x y w (by cases hx : isDig x <;> cases hy : isDig y <;> simp_all)
theorem turn_ok (x n : Int) (w : World) (hx : Dig x) (h0 : 0 ≤ n) (h1 : n ≤ 1000) (ht : TabsR w) :
    Calls Tryd.prog 107 #[.int .i64 x, .int .i64 n] w fun e w' => e = .returned (.int .i64 (turnN n.toNat x)) ∧ w = w' := by
  have HT := Lib.hid ht
  have Hx := Lib.hid hx
  clear ht hx
  go_enter Tryd.func107, Tryd.ntmps107
  go_wp2
  go_loop [0, 6] (fun v i => ∃ k : Nat, (k : Int) ≤ n ∧ i = .int .i64 k ∧ v = .int .i64 (turnN k x)) (fun _ i => n.toNat - (intOf i).toNat)
  case atStart => exact ⟨0, by omega, rfl, rfl⟩
  case round =>
    obtain ⟨k, hk, rfl, rfl⟩ := hrel
    have hd := dig_turn Hx.out k
    have hc := HT.out.turn _ hd.1 hd.2
    obtain ⟨d0, d9⟩ := hd
    by_cases hlt : (k : Int) < n
    · go_wp2
      go_round
      case rel => exact ⟨k + 1, by omega, by go_num, rfl⟩
      case measure => simp [intOf]; omega
    · have hn : n.toNat = k := by omega
      have HN := Lib.hid hn
      clear hn
      go_wp2
      go_ret
      exact ⟨by rw [HN.out]; rfl, rfl⟩
/-! ### The reference's -/
def cornD (x c : Int) : Int := if x < 5 then (c + x) % 5 else (x + 5 - c) % 5
theorem corn_le (x c : Int) : 0 ≤ cornD x c ∧ cornD x c ≤ 4 := by unfold cornD; split <;> omega
theorem rCorner (x c : Int) (w : World) (hx : Dig x) (h0 : 0 ≤ c) (h4 : c ≤ 4) :
    Calls Tryd.prog 146 #[.int .i64 x, .int .i64 c] w fun e w' => e = .returned (.int .i64 (cornD x c)) ∧ w = w' := by
  obtain ⟨x0, x9⟩ := hx
  unfold cornD
  by_cases h : x < 5
  · rw [if_pos h]
    go_enter Tryd.func146, Tryd.ntmps146
    go_wp2
    go_ret
    exact ⟨rfl, rfl⟩
  · rw [if_neg h]
    go_enter Tryd.func146, Tryd.ntmps146
    go_wp2
    go_ret
    exact ⟨rfl, rfl⟩
theorem corn_fin : ∀ x y : Fin 10, mulD x.val y.val = if (cornD x.val (cornD y.val 0) + 1) % 5 = cornD x.val (cornD y.val 1) then cornD x.val (cornD y.val 0) else 5 + cornD x.val (cornD y.val 0) := by decide +kernel
theorem corn_mul {x y : Int} (hx : Dig x) (hy : Dig y) : mulD x y = if (cornD x (cornD y 0) + 1) % 5 = cornD x (cornD y 1) then cornD x (cornD y 0) else 5 + cornD x (cornD y 0) := by
  obtain ⟨i, rfl⟩ := hx.fin; obtain ⟨j, rfl⟩ := hy.fin; exact corn_fin i j
theorem rtimes_ok (x y : Int) (w : World) (hx : Dig x) (hy : Dig y) :
    Calls Tryd.prog 108 #[.int .i64 x, .int .i64 y] w fun e w' => e = .returned (.int .i64 (mulD x y)) ∧ w = w' := by
  have Hx := Lib.hid hx
  have Hy := Lib.hid hy
  have HM := Lib.hid (corn_mul hx hy)
  clear hx hy
  obtain ⟨a0, a4⟩ := corn_le y 0
  obtain ⟨b0, b4⟩ := corn_le x (cornD y 0)
  obtain ⟨c0, c4⟩ := corn_le y 1
  obtain ⟨d0, d4⟩ := corn_le x (cornD y 1)
  go_enter Tryd.func108, Tryd.ntmps108
  go_wp2_with fail
  refine (rCorner _ _ _ Hy.out (by omega) (by omega)).mono ?_
  rintro e w' ⟨rfl, rfl⟩
  go_wp2_with fail
  refine (rCorner _ _ _ Hx.out (by omega) (by omega)).mono ?_
  rintro e w' ⟨rfl, rfl⟩
  go_wp2_with fail
  refine (rCorner _ _ _ Hy.out (by omega) (by omega)).mono ?_
  rintro e w' ⟨rfl, rfl⟩
  go_wp2_with fail
  refine (rCorner _ _ _ Hx.out (by omega) (by omega)).mono ?_
  rintro e w' ⟨rfl, rfl⟩
  by_cases h : (cornD x (cornD y 0) + 1) % 5 = cornD x (cornD y 1)
  · rw [if_pos h] at HM
    have h' : ((cornD x (cornD y 0) + 1) % 5 == cornD x (cornD y 1)) = true := by simpa using h
    clear h
    go_wp2
    go_ret
    exact ⟨by rw [HM.out]; rfl, rfl⟩
  · rw [if_neg h] at HM
    have h' : ((cornD x (cornD y 0) + 1) % 5 == cornD x (cornD y 1)) = false := by simpa using h
    clear h
    go_wp2
    go_ret
    exact ⟨by rw [HM.out]; rfl, rfl⟩
def tens : Array Value := #[.int .i64 1, .int .i64 5, .int .i64 7, .int .i64 6, .int .i64 2, .int .i64 8, .int .i64 3, .int .i64 0, .int .i64 9, .int .i64 4]
theorem tens_at (w : World) (i r : Int) (i' r' : Int) (h : (Instr.index 82 (.agg tens) (.int .i64 i)).run Tryd.prog w = .ok (.int .i64 r) w) (hi : i = i' := by rfl) (hr : r = r' := by rfl) :
    (Instr.index 82 (.agg tens) (.int .i64 i')).run Tryd.prog w = .ok (.int .i64 r') w := by subst hi; subst hr; exact h
theorem tens_fin (w : World) : ∀ i : Fin 10, (Instr.index 82 (.agg tens) (.int .i64 i.val)).run Tryd.prog w = .ok (.int .i64 (trnD i.val)) w := by
  intro i
  match i with
  | 0 => exact tens_at w 0 1 _ _ (by kernel_rfl)
  | 1 => exact tens_at w 1 5 _ _ (by kernel_rfl)
  | 2 => exact tens_at w 2 7 _ _ (by kernel_rfl)
  | 3 => exact tens_at w 3 6 _ _ (by kernel_rfl)
  | 4 => exact tens_at w 4 2 _ _ (by kernel_rfl)
  | 5 => exact tens_at w 5 8 _ _ (by kernel_rfl)
  | 6 => exact tens_at w 6 3 _ _ (by kernel_rfl)
  | 7 => exact tens_at w 7 0 _ _ (by kernel_rfl)
  | 8 => exact tens_at w 8 9 _ _ (by kernel_rfl)
  | 9 => exact tens_at w 9 4 _ _ (by kernel_rfl)
theorem rturn_ok (x : Int) (w : World) (hx : Dig x) :
    Calls Tryd.prog 147 #[.int .i64 x] w fun e w' => e = .returned (.int .i64 (trnD x)) ∧ w = w' := by
  obtain ⟨i, rfl⟩ := hx.fin
  have h := tens_fin w i
  unfold tens at h
  clear hx
  generalize trnD (i.val : Int) = r at *
  generalize (i.val : Int) = x at *
  go_enter Tryd.func147, Tryd.ntmps147
  go_wp2
  go_ret
  exact ⟨rfl, rfl⟩
theorem rturned_ok (x n : Int) (w : World) (hx : Dig x) (h0 : 0 ≤ n) (h1 : n ≤ 1000) :
    Calls Tryd.prog 109 #[.int .i64 x, .int .i64 n] w fun e w' => e = .returned (.int .i64 (turnN n.toNat x)) ∧ w = w' := by
  have Hx := Lib.hid hx
  clear hx
  go_enter Tryd.func109, Tryd.ntmps109
  go_wp2
  go_loop [0, 5] (fun v i => ∃ k : Nat, (k : Int) ≤ n ∧ i = .int .i64 k ∧ v = .int .i64 (turnN k x)) (fun _ i => n.toNat - (intOf i).toNat)
  case atStart => exact ⟨0, by omega, rfl, rfl⟩
  case round =>
    obtain ⟨k, hk, rfl, rfl⟩ := hrel
    by_cases hlt : (k : Int) < n
    · go_wp2_with (go_at_call 147; refine (rturn_ok _ _ (dig_turn Hx.out k)).mono ?_; rintro e w' ⟨rfl, rfl⟩)
      go_round
      case rel => exact ⟨k + 1, by omega, by go_num, rfl⟩
      case measure => simp [intOf]; omega
    · have hn : n.toNat = k := by omega
      have HN := Lib.hid hn
      clear hn
      go_wp2_with fail
      go_ret
      exact ⟨by rw [HN.out]; rfl, rfl⟩
end Go.Proofs.YtoenecgjiejljaaDoor
namespace Go.Proofs.YtoenecgjiejljaaDoor
open Go.RowKit
set_option linter.unusedVariables false

theorem TabsR.drewN {w : World} (h : TabsR w) (n : Nat) : TabsR (w.drewN n) := ⟨h.prod, h.turn, h.size⟩

theorem drop_step {l : List Int} {k : Nat} {d : Int} (hk : k < l.length) (hd : l[l.length - 1 - k]? = some d) : sumL (l.drop (l.length - (k + 1))) = mulD (sumL (l.drop (l.length - k))) (turnN k d) := by
  have h1 : l.length - (k + 1) < l.length := by omega
  have hd' : l[l.length - (k + 1)] = d := by
    have e : l.length - 1 - k = l.length - (k + 1) := by omega
    rw [e, List.getElem?_eq_getElem h1] at hd
    exact Option.some.inj hd
  rw [List.drop_eq_getElem_cons h1, hd', show l.length - (k + 1) + 1 = l.length - k by omega]
  simp only [sumL, List.length_drop]
  rw [show l.length - (l.length - k) = k by omega]
theorem dig_at {l : List Int} {k : Nat} {d : Int} (hl : ∀ x ∈ l, Dig x) (hd : l[k]? = some d) : Dig d := hl d (List.mem_of_getElem? hd)
theorem dig_drop {l : List Int} (hl : ∀ x ∈ l, Dig x) (k : Nat) : Dig (sumL (l.drop k)) := dig_sum fun x hx => hl x (List.mem_of_mem_drop hx)
theorem turn_nat (x T : Int) (k : Nat) (w : World) (hx : Dig x) (h1 : k ≤ 1000) (ht : TabsR w) (hT : turnN k x = T) :
    Calls Tryd.prog 107 #[.int .i64 x, .int .i64 k] w fun e w' => e = .returned (.int .i64 T) ∧ w = w' := by
  subst hT
  have := turn_ok x k w hx (by omega) (by omega) ht
  simpa using this

theorem sum_ok (A : Option Addr) (c : Nat) (l : List Int) (w : World) (hr : Rd w w.heap.size A (ints l)) (hl : ∀ x ∈ l, Dig x) (hn : l.length ≤ 1000) (ht : TabsR w) :
    Calls Tryd.prog 55 #[.slice A l.length c] w fun e w' => e = .returned (.int .i64 (sumL l)) ∧ ∃ n, w' = w.drewN n := by
  have HT := Lib.hid ht
  have HR := Lib.hid hr
  have HL := Lib.hid hl
  clear ht hr hl
  go_enter Tryd.func55, Tryd.ntmps55
  go_wp2
  go_loopw [3, 8] (fun t i wr => ∃ k : Nat, k ≤ l.length ∧ i = .int .i64 k ∧ t = .int .i64 (sumL (l.drop (l.length - k))) ∧ ∃ m, wr = w.drewN m) (fun _ i _ => l.length - (intOf i).toNat)
  case atStart => exact ⟨0, by omega, rfl, by simp [sumL], 0, rfl⟩
  case round =>
    obtain ⟨k, hk, rfl, rfl, m, rfl⟩ := hrel
    by_cases hlt : k < l.length
    · obtain ⟨b, o, d, rfl, hd, hc⟩ := HR.out.int (l.length - 1 - k) (by omega)
      have HS := Lib.hid (drop_step hlt hd)
      have hS := dig_drop HL.out (l.length - k)
      have hdd := dig_at HL.out hd
      have Hd := Lib.hid hdd
      have hT := dig_turn hdd k
      generalize hs : sumL (l.drop (l.length - k)) = S at *
      generalize ht : turnN k d = T at *
      have H1 := Lib.hid ht
      have H2 := Lib.hid hs
      clear ht hs
      have hp := HT.out.prod S T hS.1 hS.2 hT.1 hT.2
      obtain ⟨s0, s9⟩ := hS
      obtain ⟨t0, t9⟩ := hT
      clear hdd
      go_wp2_with fail
      go_quiet ((go_at_call 107; exact qs (turn_nat d T k _ Hd.out (by omega) (HT.out.drewN _) H1.out)))
      go_wp2
      go_roundw
      case rel => exact ⟨k + 1, by omega, by go_num, by rw [HS.out], _, rfl⟩
      case measure => simp [intOf]; omega
    · have hk' : k = l.length := by omega
      have HK := Lib.hid hk'
      clear hk'
      go_wp2
      go_ret
      exact ⟨by rw [HK.out]; simp, _, rfl⟩
def allDig (l : List Int) : Bool := l.all isDig
theorem allDig_iff {l : List Int} : allDig l = true ↔ ∀ x ∈ l, Dig x := by simp [allDig, isDig_iff]
def digE (l : List Int) (most : Int) : Int := if most < (l.length : Int) then 3 else if allDig l then 0 else 1
theorem digE_large {l : List Int} {most : Int} (h : most < (l.length : Int)) : digE l most = 3 := if_pos h
theorem digE_ok {l : List Int} {most : Int} (h : ¬ most < (l.length : Int)) (ha : allDig l = true) : digE l most = 0 := by rw [digE, if_neg h, if_pos ha]
theorem digE_bad {l : List Int} {most : Int} (h : ¬ most < (l.length : Int)) (ha : allDig l = false) : digE l most = 1 := by rw [digE, if_neg h, if_neg (by simp [ha])]
theorem allDig_take {l : List Int} {k : Nat} {d : Int} (h : allDig (l.take k) = true) (hd : l[k]? = some d) (hdd : isDig d = true) : allDig (l.take (k + 1)) = true := by
  have hlt : k < l.length := (List.getElem?_eq_some_iff.1 hd).1
  rw [List.take_succ_eq_append_getElem hlt]
  rw [List.getElem?_eq_getElem hlt] at hd
  rw [Option.some.inj hd]
  unfold allDig at *
  rw [List.all_append, h]
  simp [hdd]
theorem allDig_not {l : List Int} {k : Nat} {d : Int} (hd : l[k]? = some d) (hdd : isDig d = false) : allDig l = false := by
  simp only [allDig, List.all_eq_false]
  exact ⟨d, List.mem_of_getElem? hd, by simp [hdd]⟩
theorem validate_any (A : Option Addr) (c : Nat) (l : List Int) (most : Int) (w : World) (hr : Rd w w.heap.size A (ints l)) (hn : l.length ≤ 1000) :
    Calls Tryd.prog 85 #[.slice A l.length c, .int .i64 most] w fun e w' => e = .returned (.int .i64 (digE l most)) ∧ w = w' := by
  have HR := Lib.hid hr
  clear hr
  by_cases hm : most < (l.length : Int)
  · rw [digE_large hm]
    go_enter Tryd.func85, Tryd.ntmps85
    go_wp2
    go_ret
    exact ⟨rfl, rfl⟩
  · go_enter Tryd.func85, Tryd.ntmps85
    go_wp2
    go_loop [13] (fun i => ∃ k : Nat, k ≤ l.length ∧ i = .int .i64 k ∧ allDig (l.take k) = true) (fun i => l.length - (intOf i).toNat)
    case atStart => exact ⟨0, by omega, rfl, by simp [allDig]⟩
    case round =>
      obtain ⟨k, hk, rfl, hall⟩ := hrel
      have HA := Lib.hid hall
      clear hall
      by_cases hlt : k < l.length
      · obtain ⟨b, o, d, rfl, hd, hc⟩ := HR.out.int k hlt
        by_cases hdd : isDig d = true
        · have Hd := Lib.hid hdd
          clear hdd
          go_wp2_with (go_at_call 104; refine (isDigit_yes d w (isDig_iff.1 Hd.out)).mono ?_; rintro e w' ⟨rfl, rfl⟩)
          go_round
          case rel => exact ⟨k + 1, by omega, by go_num, allDig_take HA.out hd.out Hd.out⟩
          case measure => simp [intOf]; omega
        · have Hd := Lib.hid (by simpa using hdd : isDig d = false)
          clear hdd
          go_wp2_with (go_at_call 104; refine (isDigit_no d w Hd.out).mono ?_; rintro e w' ⟨rfl, rfl⟩)
          go_ret
          exact ⟨by rw [digE_bad (by omega) (allDig_not hd.out Hd.out)]; rfl, rfl⟩
      · have hk' : k = l.length := by omega
        have HK := Lib.hid hk'
        clear hk'
        go_wp2
        go_ret
        exact ⟨by rw [digE_ok (by omega) (by have := HA.out; rwa [HK.out, List.take_length] at this)]; rfl, rfl⟩
def sumV (l : List Int) : Int := if digE l 12 = 0 then sumL l else 0
theorem digE_zero {l : List Int} {most : Int} (h : digE l most = 0) : (l.length : Int) ≤ most ∧ ∀ x ∈ l, Dig x := by
  unfold digE at h
  split at h
  · cases h
  · split at h
    · exact ⟨by omega, allDig_iff.1 ‹_›⟩
    · cases h
end Go.Proofs.YtoenecgjiejljaaDoor

/-
  The walks of ring.turn, Turn, Undo, Times for every input, and of the reference's digit functions. Conditions: 'TabsR' where package ring reads its tables.
-/
import Derived.Test.YtoenecgjiejljaaDoorTab
namespace Go.Proofs.YtoenecgjiejljaaDoor
open Go.RowKit
set_option linter.unusedVariables false

def timesV (x y : Int) : Int := if isDig x && isDig y then mulD x y else 0
def timesE (x y : Int) : Int := if isDig x && isDig y then 0 else 1
def undoV (x : Int) : Int := if isDig x then invD x else 0
def undoE (x : Int) : Int := if isDig x then 0 else 1
def turnOk (x n : Int) : Bool := isDig x && decide (0 ≤ n) && decide (n ≤ 1000)
def turnV (x n : Int) : Int := if turnOk x n then turnN n.toNat x else 0
def turnE (x n : Int) : Int := if turnOk x n then 0 else 1

theorem Times_any (x y : Int) (w : World) (ht : TabsR w) :
    Calls Tryd.prog 49 #[.int .i64 x, .int .i64 y] w fun e w' => e = .returned (.tuple #[.int .i64 (timesV x y), .int .i64 (timesE x y)]) ∧ w = w' := by
  unfold timesV timesE
  by_cases h : (isDig x && isDig y) = true
  · have h' : Dig x ∧ Dig y := by simpa [isDig_iff] using h
    rw [if_pos h, if_pos h]
    exact Times_ok x y w h'.1 h'.2 ht
  · rw [if_neg h, if_neg h]
    exact Times_bad x y w (by cases hx : isDig x <;> cases hy : isDig y <;> simp_all)
theorem turn_ok (x n : Int) (w : World) (hx : Dig x) (h0 : 0 ≤ n) (h1 : n ≤ 1000) (ht : TabsR w) :
    Calls Tryd.prog 107 #[.int .i64 x, .int .i64 n] w fun e w' => e = .returned (.int .i64 (turnN n.toNat x)) ∧ w = w' := by
  have HT := Lib.hid ht
  have Hx := Lib.hid hx
  clear ht hx
  go_enter Tryd.func107, Tryd.ntmps107
  go_wp2
  go_loop [0, 6] (fun v i => ∃ k : Nat, (k : Int) ≤ n ∧ i = .int .i64 k ∧ v = .int .i64 (turnN k x)) (fun _ i => n.toNat - (intOf i).toNat)
  case atStart => exact ⟨0, by omega, rfl, rfl⟩
  case round =>
    obtain ⟨k, hk, rfl, rfl⟩ := hrel
    have hd := dig_turn Hx.out k
    have hc := HT.out.turn _ hd.1 hd.2
    obtain ⟨d0, d9⟩ := hd
    by_cases hlt : (k : Int) < n
    · go_wp2
      go_round
      case rel => exact ⟨k + 1, by omega, by go_num, rfl⟩
      case measure => simp [intOf]; omega
    · have hn : n.toNat = k := by omega
      have HN := Lib.hid hn
      clear hn
      go_wp2
      go_ret
      exact ⟨by rw [HN.out]; rfl, rfl⟩
/-! ### The reference's -/
def cornD (x c : Int) : Int := if x < 5 then (c + x) % 5 else (x + 5 - c) % 5
theorem corn_le (x c : Int) : 0 ≤ cornD x c ∧ cornD x c ≤ 4 := by unfold cornD; split <;> omega
theorem rCorner (x c : Int) (w : World) (hx : Dig x) (h0 : 0 ≤ c) (h4 : c ≤ 4) :
    Calls Tryd.prog 146 #[.int .i64 x, .int .i64 c] w fun e w' => e = .returned (.int .i64 (cornD x c)) ∧ w = w' := by
  obtain ⟨x0, x9⟩ := hx
  unfold cornD
  by_cases h : x < 5
  · rw [if_pos h]
    go_enter Tryd.func146, Tryd.ntmps146
    go_wp2
    go_ret
    exact ⟨rfl, rfl⟩
  · rw [if_neg h]
    go_enter Tryd.func146, Tryd.ntmps146
    go_wp2
    go_ret
    exact ⟨rfl, rfl⟩
theorem corn_fin : ∀ x y : Fin 10, mulD x.val y.val = if (cornD x.val (cornD y.val 0) + 1) % 5 = cornD x.val (cornD y.val 1) then cornD x.val (cornD y.val 0) else 5 + cornD x.val (cornD y.val 0) := by decide +kernel
theorem corn_mul {x y : Int} (hx : Dig x) (hy : Dig y) : mulD x y = if (cornD x (cornD y 0) + 1) % 5 = cornD x (cornD y 1) then cornD x (cornD y 0) else 5 + cornD x (cornD y 0) := by
  obtain ⟨i, rfl⟩ := hx.fin; obtain ⟨j, rfl⟩ := hy.fin; exact corn_fin i j
theorem rtimes_ok (x y : Int) (w : World) (hx : Dig x) (hy : Dig y) :
    Calls Tryd.prog 108 #[.int .i64 x, .int .i64 y] w fun e w' => e = .returned (.int .i64 (mulD x y)) ∧ w = w' := by
  have Hx := Lib.hid hx
  have Hy := Lib.hid hy
  have HM := Lib.hid (corn_mul hx hy)
  clear hx hy
  obtain ⟨a0, a4⟩ := corn_le y 0
  obtain ⟨b0, b4⟩ := corn_le x (cornD y 0)
  obtain ⟨c0, c4⟩ := corn_le y 1
  obtain ⟨d0, d4⟩ := corn_le x (cornD y 1)
  go_enter Tryd.func108, Tryd.ntmps108
  go_wp2_with fail
  refine (rCorner _ _ _ Hy.out (by omega) (by omega)).mono ?_
  rintro e w' ⟨rfl, rfl⟩
  go_wp2_with fail
  refine (rCorner _ _ _ Hx.out (by omega) (by omega)).mono ?_
  rintro e w' ⟨rfl, rfl⟩
  go_wp2_with fail
  refine (rCorner _ _ _ Hy.out (by omega) (by omega)).mono ?_
  rintro e w' ⟨rfl, rfl⟩
  go_wp2_with fail
  refine (rCorner _ _ _ Hx.out (by omega) (by omega)).mono ?_
  rintro e w' ⟨rfl, rfl⟩
  by_cases h : (cornD x (cornD y 0) + 1) % 5 = cornD x (cornD y 1)
  · rw [if_pos h] at HM
    have h' : ((cornD x (cornD y 0) + 1) % 5 == cornD x (cornD y 1)) = true := by simpa using h
    clear h
    go_wp2
    go_ret
    exact ⟨by rw [HM.out]; rfl, rfl⟩
  · rw [if_neg h] at HM
    have h' : ((cornD x (cornD y 0) + 1) % 5 == cornD x (cornD y 1)) = false := by simpa using h
    clear h
    go_wp2
    go_ret
    exact ⟨by rw [HM.out]; rfl, rfl⟩
def tens : Array Value := #[.int .i64 1, .int .i64 5, .int .i64 7, .int .i64 6, .int .i64 2, .int .i64 8, .int .i64 3, .int .i64 0, .int .i64 9, .int .i64 4]
theorem tens_at (w : World) (i r : Int) (i' r' : Int) (h : (Instr.index 82 (.agg tens) (.int .i64 i)).run Tryd.prog w = .ok (.int .i64 r) w) (hi : i = i' := by rfl) (hr : r = r' := by rfl) :
    (Instr.index 82 (.agg tens) (.int .i64 i')).run Tryd.prog w = .ok (.int .i64 r') w := by subst hi; subst hr; exact h
theorem tens_fin (w : World) : ∀ i : Fin 10, (Instr.index 82 (.agg tens) (.int .i64 i.val)).run Tryd.prog w = .ok (.int .i64 (trnD i.val)) w := by
  intro i
  match i with
  | 0 => exact tens_at w 0 1 _ _ (by kernel_rfl)
  | 1 => exact tens_at w 1 5 _ _ (by kernel_rfl)
  | 2 => exact tens_at w 2 7 _ _ (by kernel_rfl)
  | 3 => exact tens_at w 3 6 _ _ (by kernel_rfl)
  | 4 => exact tens_at w 4 2 _ _ (by kernel_rfl)
  | 5 => exact tens_at w 5 8 _ _ (by kernel_rfl)
  | 6 => exact tens_at w 6 3 _ _ (by kernel_rfl)
  | 7 => exact tens_at w 7 0 _ _ (by kernel_rfl)
  | 8 => exact tens_at w 8 9 _ _ (by kernel_rfl)
  | 9 => exact tens_at w 9 4 _ _ (by kernel_rfl)
theorem rturn_ok (x : Int) (w : World) (hx : Dig x) :
    Calls Tryd.prog 147 #[.int .i64 x] w fun e w' => e = .returned (.int .i64 (trnD x)) ∧ w = w' := by
  obtain ⟨i, rfl⟩ := hx.fin
  have h := tens_fin w i
  unfold tens at h
  clear hx
  generalize trnD (i.val : Int) = r at *
  generalize (i.val : Int) = x at *
  go_enter Tryd.func147, Tryd.ntmps147
  go_wp2
  go_ret
  exact ⟨rfl, rfl⟩
theorem rturned_ok (x n : Int) (w : World) (hx : Dig x) (h0 : 0 ≤ n) (h1 : n ≤ 1000) :
    Calls Tryd.prog 109 #[.int .i64 x, .int .i64 n] w fun e w' => e = .returned (.int .i64 (turnN n.toNat x)) ∧ w = w' := by
  have Hx := Lib.hid hx
  clear hx
  go_enter Tryd.func109, Tryd.ntmps109
  go_wp2
  go_loop [0, 5] (fun v i => ∃ k : Nat, (k : Int) ≤ n ∧ i = .int .i64 k ∧ v = .int .i64 (turnN k x)) (fun _ i => n.toNat - (intOf i).toNat)
  case atStart => exact ⟨0, by omega, rfl, rfl⟩
  case round =>
    obtain ⟨k, hk, rfl, rfl⟩ := hrel
    by_cases hlt : (k : Int) < n
    · go_wp2_with (go_at_call 147; refine (rturn_ok _ _ (dig_turn Hx.out k)).mono ?_; rintro e w' ⟨rfl, rfl⟩)
      go_round
      case rel => exact ⟨k + 1, by omega, by go_num, rfl⟩
      case measure => simp [intOf]; omega
    · have hn : n.toNat = k := by omega
      have HN := Lib.hid hn
      clear hn
      go_wp2_with fail
      go_ret
      exact ⟨by rw [HN.out]; rfl, rfl⟩
end Go.Proofs.YtoenecgjiejljaaDoor

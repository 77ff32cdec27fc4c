/-
  Numbers of birds and binomial coefficients: the walks of areNumbers, areBirds, binomial of both sides. Condition: the list can be read; n is at most 60.
-/
import Derived.Test.YtegehfcnclpdeabDoorProg
import Derived.Test.YtegehfcnclpdeabDoorGen
import Derived.Test.YtegehfcnclpdeabDoorCh2
namespace Go.Proofs.YtegehfcnclpdeabDoor
open Go.RowKit
set_option linter.unusedVariables false

def isB (d : Int) : Bool := decide (0 ≤ d) && decide (d ≤ 60)
theorem isB_bad {L : List Int} {k : Nat} {d : Int} (hd : L[k]? = some d) (h : isB d = false) : L.all isB = false := by
  rw [List.all_eq_false]
  exact ⟨d, List.mem_of_getElem? hd, by rw [h]; simp⟩
theorem isB_next {L : List Int} {k : Nat} {d : Int} (hd : L[k]? = some d) (h : isB d = true) (ha : (L.take k).all isB = true) : (L.take (k + 1)).all isB = true := by
  rw [List.take_add_one, hd, List.all_append, ha]
  simp [h]
theorem isB_iff {d : Int} : isB d = true ↔ 0 ≤ d ∧ d ≤ 60 := by simp [isB]
set_option maxRecDepth 4000 in
set_option maxHeartbeats 1000000 in
theorem areNumbers_any (A : Option Addr) (c : Nat) (L : List Int) (w : World) (hr : Rd w w.heap.size A (ints L)) (hl : L.length ≤ 9223372036854775807) :
    Calls Tryd.prog 12 #[.slice A L.length c] w fun e w' => e = .returned (.bool (L.all isB)) ∧ w = w' := by
  have HR := Lib.hid hr
  clear hr
  go_enter Tryd.func12, Tryd.ntmps12
  go_wp2_with fail
  go_loop [7] (fun i => ∃ k : Nat, k ≤ L.length ∧ i = .int .i64 k ∧ (L.take k).all isB = true) (fun i => L.length - (intOf i).toNat)
  case atStart => exact ⟨0, by omega, rfl, by simp⟩
  case round =>
    obtain ⟨k, hk, rfl, hall⟩ := hrel
    have HA := Lib.hid hall
    clear hall
    by_cases hlt : k < L.length
    · obtain ⟨b, o, d, rfl, hd, hc⟩ := HR.out.int k hlt
      by_cases hd0 : d < 0
      · have e4 : decide (d < 0) = true := by simpa using hd0
        have HX := Lib.hid (isB_bad hd.out (by unfold isB; rw [decide_eq_false (by omega)]; rfl))
        clear hd0
        go_wp2_with fail
        go_ret
        exact ⟨by rw [HX.out]; rfl, rfl⟩
      · have e4 : decide (d < 0) = false := by simp; omega
        by_cases hd1 : 60 < d
        · have e5 : decide (60 < d) = true := by simpa using hd1
          have HX := Lib.hid (isB_bad hd.out (by unfold isB; rw [decide_eq_false (show ¬ d ≤ 60 by omega), Bool.and_false]))
          clear hd0 hd1
          go_wp2_with fail
          go_ret
          exact ⟨by rw [HX.out]; rfl, rfl⟩
        · have e5 : decide (60 < d) = false := by simp; omega
          have HX := Lib.hid (isB_next hd.out (by unfold isB; rw [decide_eq_true (show 0 ≤ d by omega), decide_eq_true (show d ≤ 60 by omega)]; rfl) HA.out)
          clear hd0 hd1
          go_wp2_with fail
          go_round
          case rel => exact ⟨k + 1, by omega, by go_num, HX.out⟩
          case measure => simp [intOf]; omega
    · have hks : k = L.length := by omega
      have HX := Lib.hid (show L.all isB = true by have := HA.out; rw [hks, List.take_length] at this; exact this)
      subst hks
      go_wp2_with fail
      go_ret
      exact ⟨by rw [HX.out]; rfl, rfl⟩
/-- The choices of k of n, whatever the numbers. -/
def bI (n k : Int) : Nat := if k < 0 ∨ n < k then 0 else ch n.toNat k.toNat
theorem bI_neg {n k : Int} (h : k < 0) : bI n k = 0 := if_pos (.inl h)
theorem bI_gt {n k : Int} (h : n < k) : bI n k = 0 := if_pos (.inr h)
theorem bI_nat (n k : Nat) : bI (n : Int) (k : Int) = ch n k := by
  unfold bI
  split
  · rename_i h
    rw [ch_gt (show n < k by omega)]
  · simp
theorem ch_div {n i : Nat} (h : i < n) : ((ch n i : Nat) : Int) * ((n : Int) - (i : Int)) = ((ch n i * (n - i) : Nat) : Int) ∧ ((ch n i * (n - i) : Nat) : Int) / ((i : Int) + 1) = ((ch n (i + 1) : Nat) : Int) := by
  constructor
  · rw [Int.natCast_mul, Int.ofNat_sub (Nat.le_of_lt h)]
  · rw [← ch_step, Int.natCast_ediv]
    rfl
set_option maxRecDepth 4000 in
set_option maxHeartbeats 1000000 in
theorem binomial_any (n k : Int) (hn : n ≤ 60) (hk0 : -9223372036854775808 ≤ k) (w : World) :
    Calls Tryd.prog 13 #[.int .i64 n, .int .i64 k] w fun e w' => e = .returned (.int .i64 (bI n k : Nat)) ∧ w = w' := by
  by_cases h1 : k < 0
  · have e1 : decide (k < 0) = true := decide_eq_true h1
    have HX := Lib.hid (bI_neg (n := n) h1)
    clear h1
    go_enter Tryd.func13, Tryd.ntmps13
    go_wp2_with fail
    go_ret
    exact ⟨by rw [HX.out]; rfl, rfl⟩
  have e1 : decide (k < 0) = false := decide_eq_false h1
  by_cases h2 : n < k
  · have e2 : decide (n < k) = true := decide_eq_true h2
    have HX := Lib.hid (bI_gt h2)
    clear h1 h2
    go_enter Tryd.func13, Tryd.ntmps13
    go_wp2_with fail
    go_ret
    exact ⟨by rw [HX.out]; rfl, rfl⟩
  have e2 : decide (n < k) = false := decide_eq_false h2
  obtain ⟨N, rfl⟩ : ∃ N : Nat, n = N := ⟨n.toNat, by omega⟩
  obtain ⟨K, rfl⟩ : ∃ K : Nat, k = K := ⟨k.toNat, by omega⟩
  have e2' : decide (N < K) = false := by simp; omega
  have hNK : K ≤ N := by omega
  have hN : N ≤ 60 := by omega
  have HX := Lib.hid (bI_nat N K)
  clear h1 h2 hk0 hn
  go_enter Tryd.func13, Tryd.ntmps13
  go_wp2_with fail
  clear e1 e2 e2'
  go_loop [5, 15] (fun v i => ∃ j : Nat, j ≤ K ∧ v = .int .i64 (ch N j : Nat) ∧ i = .int .i64 j) (fun _ i => K - (intOf i).toNat)
  case atStart => exact ⟨0, by omega, by rw [ch_zero]; rfl, rfl⟩
  case round =>
    obtain ⟨j, hj, rfl, rfl⟩ := hrel
    by_cases hlt : j < K
    · have e3 : decide ((j : Int) < (K : Int)) = true := by simp; omega
      have e4 : decide (j < K) = true := by simp; omega
      obtain ⟨d1, d2⟩ := ch_div (n := N) (i := j) (by omega)
      have D2 := Lib.hid d2
      have m1 := ch_mid hN j
      have m2 := ch_small hN j
      have m3 := ch_small hN (j + 1)
      obtain ⟨x, hx⟩ : ∃ x, ch N j = x := ⟨_, rfl⟩
      obtain ⟨y, hy⟩ : ∃ y, ch N j * (N - j) = y := ⟨_, rfl⟩
      obtain ⟨z, hz⟩ : ∃ z, ch N (j + 1) = z := ⟨_, rfl⟩
      rw [hy] at m1
      have HD := Lib.hid (show (y : Int) / ((j : Int) + 1) = (z : Int) by rw [← hy, ← hz]; exact d2)
      have HM := Lib.hid (show (x : Int) * ((N : Int) - (j : Int)) = (y : Int) by rw [← hy, ← hx]; exact d1)
      have HZ := Lib.hid hz
      rw [hx] at m2
      rw [hz] at m3
      rw [hx]
      clear d1 d2 hx hy hz D2
      have e5 : (((j : Int) + 1) == 0) = false := by simp; omega
      have b1 : 0 ≤ (x : Int) * ((N : Int) - (j : Int)) := by rw [HM.out]; omega
      have b2 : (x : Int) * ((N : Int) - (j : Int)) ≤ 3547937446945842720 := by rw [HM.out]; omega
      go_wp2_with fail
      go_round
      case rel => exact ⟨j + 1, by omega, by rw [HZ.out, ← HD.out, ← HM.out], by go_num⟩
      case measure => simp [intOf]; omega
    · have hjk : j = K := by omega
      subst hjk
      go_wp2_with fail
      go_ret
      exact ⟨by rw [HX.out]; rfl, rfl⟩
end Go.Proofs.YtegehfcnclpdeabDoor

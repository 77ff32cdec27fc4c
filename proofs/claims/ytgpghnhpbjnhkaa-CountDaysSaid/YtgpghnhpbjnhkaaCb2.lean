/-
  The ways: binomial of the reference, the method ways, ways of the reference, choices, fits, check of both sides. Condition: all numbers are numbers of birds, where said.
-/
import Derived.Test.YtgpghnhpbjnhkaaCb1
import Derived.Lib.MinMax
import Derived.Deep.QuietTactic
namespace Go.Proofs.Ytgpghnhpbjnhkaa
open Go.RowKit
set_option linter.unusedVariables false

theorem cell_keep {w w' : World} {b n i : Nat} {v : Value} (h : w.cell? ⟨b, i, none⟩ = some v) (hb : Below n w w') (hn : b < n) : w'.cell? ⟨b, i, none⟩ = some v := (hb.cell (p := ⟨b, i, none⟩) hn).trans h
theorem bdN {B : Nat} {w w' : World} (h : Below B w w') (n : Nat) : Below B w (w'.drewN n) := ⟨h.os, h.tape, h.output, h.size, h.block⟩
set_option maxRecDepth 4000 in
set_option maxHeartbeats 1000000 in
theorem rbinomial_any (n k : Int) (hn : n ≤ 60) (hk0 : -9223372036854775808 ≤ k) (w : World) :
    Calls Try.prog 41 #[.int .i64 n, .int .i64 k] w fun e w' => e = .returned (.int .i64 (bI n k : Nat)) ∧ w = w' := by
  by_cases h1 : k < 0
  · have e1 : decide (k < 0) = true := decide_eq_true h1
    have HX := Lib.hid (bI_neg (n := n) h1)
    clear h1
    go_enter Try.func41, Try.ntmps41
    go_wp2_with fail
    go_ret
    exact ⟨by rw [HX.out]; rfl, rfl⟩
  have e1 : decide (k < 0) = false := decide_eq_false h1
  by_cases h2 : n < k
  · have e2 : decide (n < k) = true := decide_eq_true h2
    have HX := Lib.hid (bI_gt h2)
    clear h1 h2
    go_enter Try.func41, Try.ntmps41
    go_wp2_with fail
    go_ret
    exact ⟨by rw [HX.out]; rfl, rfl⟩
  have e2 : decide (n < k) = false := decide_eq_false h2
  obtain ⟨N, rfl⟩ : ∃ N : Nat, n = N := ⟨n.toNat, by omega⟩
  obtain ⟨K, rfl⟩ : ∃ K : Nat, k = K := ⟨k.toNat, by omega⟩
  have e2' : decide (N < K) = false := by simp; omega
  have hNK : K ≤ N := by omega
  have hN : N ≤ 60 := by omega
  have HX := Lib.hid (bI_nat N K)
  obtain ⟨M, hM⟩ : ∃ M : Nat, M = min K (N - K) := ⟨_, rfl⟩
  have HS := Lib.hid (show ch N M = ch N K by
    rcases Nat.le_total K (N - K) with h | h
    · rw [hM, Nat.min_eq_left h]
    · rw [hM, Nat.min_eq_right h, ch_symm hNK])
  have HMM := Lib.hid (show min (K : Int) ((N : Int) - (K : Int)) = (M : Int) by rw [hM]; omega)
  have hMN : M ≤ N := by omega
  clear h1 h2 hk0 hn hM
  go_enter Try.func41, Try.ntmps41
  go_wp2_with fail
  clear e1 e2 e2'
  go_loop [5, 6] (fun v i => ∃ j : Nat, j ≤ M ∧ v = .int .i64 (ch N j : Nat) ∧ i = .int .i64 j) (fun _ i => M - (intOf i).toNat)
  case atStart => exact ⟨0, by omega, by rw [ch_zero]; rfl, rfl⟩
  case round =>
    obtain ⟨j, hj, rfl, rfl⟩ := hrel
    by_cases hlt : j < M
    · have e3 : decide ((j : Int) < min (K : Int) ((N : Int) - (K : Int))) = true := by rw [HMM.out]; simp; omega
      obtain ⟨d1, d2⟩ := ch_div (n := N) (i := j) (by omega)
      have m1 := ch_mid hN j
      have m2 := ch_small hN j
      have m3 := ch_small hN (j + 1)
      obtain ⟨x, hx⟩ : ∃ x, ch N j = x := ⟨_, rfl⟩
      obtain ⟨y, hy⟩ : ∃ y, ch N j * (N - j) = y := ⟨_, rfl⟩
      obtain ⟨z, hz⟩ : ∃ z, ch N (j + 1) = z := ⟨_, rfl⟩
      rw [hy] at m1
      have HD := Lib.hid (show (y : Int) / ((j : Int) + 1) = (z : Int) by rw [← hy, ← hz]; exact d2)
      have HM := Lib.hid (show (x : Int) * ((N : Int) - (j : Int)) = (y : Int) by rw [← hy, ← hx]; exact d1)
      have HZ := Lib.hid hz
      rw [hx] at m2
      rw [hz] at m3
      rw [hx]
      clear d1 d2 hx hy hz
      have e5 : (((j : Int) + 1) == 0) = false := by simp; omega
      have b1 : 0 ≤ (x : Int) * ((N : Int) - (j : Int)) := by rw [HM.out]; omega
      have b2 : (x : Int) * ((N : Int) - (j : Int)) ≤ 3547937446945842720 := by rw [HM.out]; omega
      go_wp2_with fail
      go_round
      case rel => exact ⟨j + 1, by omega, by rw [HZ.out, ← HD.out, ← HM.out], by go_num⟩
      case measure => simp [intOf]; omega
    · have e3 : decide ((j : Int) < min (K : Int) ((N : Int) - (K : Int))) = false := by rw [HMM.out]; simp; omega
      have hjk : j = M := by omega
      subst hjk
      have HV := Lib.hid HS.out
      go_wp2_with fail
      go_ret
      exact ⟨by rw [HX.out, ← HV.out]; rfl, rfl⟩

/-- Are all numbers of birds? -/
def allB (L : List Int) : Bool := L.all isB
theorem nums2 (x y : Int) (w : World) : Calls Try.prog 38 #[.slice (some ⟨w.heap.size, 0, none⟩) 2 2] (w.alloc (.cells #[.int .i64 x, .int .i64 y] 3)) fun e w' =>
    e = .returned (.bool (allB [x, y])) ∧ Below w.heap.size w w' :=
  (areNumbers_any (some ⟨w.heap.size, 0, none⟩) 2 [x, y] (w.alloc (.cells #[.int .i64 x, .int .i64 y] 3)) (Rd.lit w (ints [x, y]) 3) (by simp)).mono fun _ _ ⟨he, hw⟩ => ⟨he, by rw [← hw]; exact (Below.refl _ _).alloc (Nat.le_refl _) _⟩
theorem nums3 (x y z : Int) (w : World) : Calls Try.prog 38 #[.slice (some ⟨w.heap.size, 0, none⟩) 3 3] (w.alloc (.cells #[.int .i64 x, .int .i64 y, .int .i64 z] 3)) fun e w' =>
    e = .returned (.bool (allB [x, y, z])) ∧ Below w.heap.size w w' :=
  (areNumbers_any (some ⟨w.heap.size, 0, none⟩) 3 [x, y, z] (w.alloc (.cells #[.int .i64 x, .int .i64 y, .int .i64 z] 3)) (Rd.lit w (ints [x, y, z]) 3) (by simp)).mono fun _ _ ⟨he, hw⟩ => ⟨he, by rw [← hw]; exact (Below.refl _ _).alloc (Nat.le_refl _) _⟩
theorem nums4 (x y z u : Int) (w : World) : Calls Try.prog 38 #[.slice (some ⟨w.heap.size, 0, none⟩) 4 4] (w.alloc (.cells #[.int .i64 x, .int .i64 y, .int .i64 z, .int .i64 u] 3)) fun e w' =>
    e = .returned (.bool (allB [x, y, z, u])) ∧ Below w.heap.size w w' :=
  (areNumbers_any (some ⟨w.heap.size, 0, none⟩) 4 [x, y, z, u] (w.alloc (.cells #[.int .i64 x, .int .i64 y, .int .i64 z, .int .i64 u] 3)) (Rd.lit w (ints [x, y, z, u]) 3) (by simp)).mono fun _ _ ⟨he, hw⟩ => ⟨he, by rw [← hw]; exact (Below.refl _ _).alloc (Nat.le_refl _) _⟩
theorem birds2 (x y : Int) (w : World) : Calls Try.prog 40 #[.slice (some ⟨w.heap.size, 0, none⟩) 2 2] (w.alloc (.cells #[.int .i64 x, .int .i64 y] 3)) fun e w' =>
    e = .returned (.bool (allB [x, y])) ∧ Below w.heap.size w w' :=
  (areBirds_any (some ⟨w.heap.size, 0, none⟩) 2 [x, y] (w.alloc (.cells #[.int .i64 x, .int .i64 y] 3)) (Rd.lit w (ints [x, y]) 3) (by simp)).mono fun _ _ ⟨he, hw⟩ => ⟨he, by rw [← hw]; exact (Below.refl _ _).alloc (Nat.le_refl _) _⟩
theorem birds3 (x y z : Int) (w : World) : Calls Try.prog 40 #[.slice (some ⟨w.heap.size, 0, none⟩) 3 3] (w.alloc (.cells #[.int .i64 x, .int .i64 y, .int .i64 z] 3)) fun e w' =>
    e = .returned (.bool (allB [x, y, z])) ∧ Below w.heap.size w w' :=
  (areBirds_any (some ⟨w.heap.size, 0, none⟩) 3 [x, y, z] (w.alloc (.cells #[.int .i64 x, .int .i64 y, .int .i64 z] 3)) (Rd.lit w (ints [x, y, z]) 3) (by simp)).mono fun _ _ ⟨he, hw⟩ => ⟨he, by rw [← hw]; exact (Below.refl _ _).alloc (Nat.le_refl _) _⟩
theorem birds4 (x y z u : Int) (w : World) : Calls Try.prog 40 #[.slice (some ⟨w.heap.size, 0, none⟩) 4 4] (w.alloc (.cells #[.int .i64 x, .int .i64 y, .int .i64 z, .int .i64 u] 3)) fun e w' =>
    e = .returned (.bool (allB [x, y, z, u])) ∧ Below w.heap.size w w' :=
  (areBirds_any (some ⟨w.heap.size, 0, none⟩) 4 [x, y, z, u] (w.alloc (.cells #[.int .i64 x, .int .i64 y, .int .i64 z, .int .i64 u] 3)) (Rd.lit w (ints [x, y, z, u]) 3) (by simp)).mono fun _ _ ⟨he, hw⟩ => ⟨he, by rw [← hw]; exact (Below.refl _ _).alloc (Nat.le_refl _) _⟩
/-- A recapture, as the program holds it. -/
def rc (b m c a : Int) : Array Value := #[.int .i64 b, .int .i64 m, .int .i64 c, .int .i64 a]
theorem box_rc (w : World) (b m c a : Int) (t : TypeId) : (w.alloc (.cells (rc b m c a) t)).cell? ⟨w.heap.size, 0, none⟩ = some (.int .i64 b) ∧ (w.alloc (.cells (rc b m c a) t)).cell? ⟨w.heap.size, 1, none⟩ = some (.int .i64 m) ∧
    (w.alloc (.cells (rc b m c a) t)).cell? ⟨w.heap.size, 2, none⟩ = some (.int .i64 c) ∧ (w.alloc (.cells (rc b m c a) t)).cell? ⟨w.heap.size, 3, none⟩ = some (.int .i64 a) ∧ Below w.heap.size w (w.alloc (.cells (rc b m c a) t)) := by
  have hg := heap_alloc_new w (.cells (rc b m c a) t)
  exact ⟨blk_cell (j := 0) hg, blk_cell (j := 1) hg, blk_cell (j := 2) hg, blk_cell (j := 3) hg, (Below.refl _ _).alloc (Nat.le_refl _) _⟩
/-- The ways, whatever the numbers. -/
def wN (b m c a : Nat) : Nat := if m ≤ b ∧ c ≤ b then wy b m c a else 0
theorem wN_fit {b m c a : Nat} (hm : m ≤ b) (hc : c ≤ b) : wN b m c a = wy b m c a := if_pos ⟨hm, hc⟩
theorem wI_eq (b m c a : Nat) : bI (m : Int) (a : Int) * bI ((b : Int) - (m : Int)) ((c : Int) - (a : Int)) = wN b m c a := by
  rw [bI_nat]
  unfold wN
  rcases Nat.lt_or_ge b m with h | h
  · rw [if_neg (by omega)]
    rcases Nat.lt_or_ge c a with h1 | h1
    · rw [bI_neg (by omega), Nat.mul_zero]
    · rw [bI_gt (by omega), Nat.mul_zero]
  · rcases Nat.lt_or_ge b c with h2 | h2
    · rw [if_neg (by omega)]
      rcases Nat.lt_or_ge m a with h3 | h3
      · rw [ch_gt h3, Nat.zero_mul]
      · rw [bI_gt (by omega), Nat.mul_zero]
    · rw [if_pos ⟨h, h2⟩]
      unfold wy
      split
      · rename_i h4
        rw [show (b : Int) - (m : Int) = ((b - m : Nat) : Int) by omega, show (c : Int) - (a : Int) = ((c - a : Nat) : Int) by omega, bI_nat]
      · rename_i h4
        rw [bI_neg (by omega), Nat.mul_zero]
theorem wN_le {b m c a : Nat} (hb : b ≤ 60) : wN b m c a ≤ 118264581564861424 := by
  unfold wN
  split
  · rename_i h
    exact Nat.le_trans (wy_le h.1) (ch_small hb c)
  · exact Nat.zero_le _
theorem wI_le {b m c a : Nat} (hb : b ≤ 60) : bI (m : Int) (a : Int) * bI ((b : Int) - (m : Int)) ((c : Int) - (a : Int)) ≤ 118264581564861424 := by
  rw [wI_eq]; exact wN_le hb
end Go.Proofs.Ytgpghnhpbjnhkaa

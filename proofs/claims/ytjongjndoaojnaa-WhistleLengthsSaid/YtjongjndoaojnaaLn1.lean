/-
  The code for lengths, as the reference makes it: the walks of lengthsOK, binary, Fill of both sides. Condition: the lengths can be read.
-/
import Derived.Test.YtjongjndoaojnaaSg5
import Derived.Test.YtjongjndoaojnaaBk1
import Derived.Test.YtjongjndoaojnaaKr2
namespace Go.Proofs.Ytjongjndoaojnaa
open Go.RowKit
set_option linter.unusedVariables false

def lokE (L : List Int) : Int := if lenB L = true then 0 else 1
set_option maxRecDepth 4000 in
set_option maxHeartbeats 1000000 in
theorem lengthsOK_any (A : Option Addr) (c : Nat) (L : List Int) (w : World) (hr : Rd w w.heap.size A (ints L)) (hl : L.length ≤ 9223372036854775807) :
    Calls Try.prog 80 #[.slice A L.length c] w fun e w' => e = .returned (.int .i64 (lokE L)) ∧ w = w' := by
  have HR := Lib.hid hr
  clear hr
  by_cases h0 : L.length < 1
  · have e1 : decide (((L.length : Nat) : Int) < 1) = true := by simp only [decide_eq_true_eq]; omega
    have e2 : decide (L.length < 1) = true := decide_eq_true h0
    have HE := Lib.hid (show lokE L = 1 by unfold lokE lenB; rw [decide_eq_false (show ¬ 1 ≤ L.length by omega)]; rfl)
    clear h0
    go_enter Try.func80, Try.ntmps80
    go_wp2_with fail
    go_ret
    exact ⟨by rw [HE.out]; rfl, rfl⟩
  have e1 : decide (((L.length : Nat) : Int) < 1) = false := by simp only [decide_eq_false_iff_not]; omega
  have e1' : decide (L.length < 1) = false := decide_eq_false h0
  by_cases h12 : 12 < L.length
  · have e2 : decide ((12 : Int) < (L.length : Int)) = true := by simp; omega
    have e3 : decide (12 < L.length) = true := by simpa using h12
    have HE := Lib.hid (show lokE L = 1 by unfold lokE lenB; rw [decide_eq_false (show ¬ L.length ≤ 12 by omega), Bool.and_false]; rfl)
    clear h0 h12
    go_enter Try.func80, Try.ntmps80
    go_wp2_with fail
    go_ret
    exact ⟨by rw [HE.out]; rfl, rfl⟩
  have e2 : decide ((12 : Int) < (L.length : Int)) = false := by simp; omega
  have e3 : decide (12 < L.length) = false := by simpa using h12
  have HOK := Lib.hid (fun h => lenB_ok (L := L) (by omega) (by omega) h)
  have h12' : L.length ≤ 12 := by omega
  clear h0 h12
  go_enter Try.func80, Try.ntmps80
  go_wp2_with fail
  clear e1 e1' e2 e3
  go_loop [3] (fun i => ∃ k : Nat, k ≤ L.length ∧ i = .int .i64 k ∧ (L.take k).all isLen = true) (fun i => L.length - (intOf i).toNat)
  case atStart => exact ⟨0, by omega, rfl, by simp⟩
  case round =>
    obtain ⟨k, hk, rfl, hall⟩ := hrel
    have HA := Lib.hid hall
    clear hall
    by_cases hlt : k < L.length
    · obtain ⟨b, o, d, rfl, hd, hc⟩ := HR.out.int k hlt
      have b0 : (0 : Int) ≤ (k : Int) := by omega
      have b1 : (k : Int) < (L.length : Int) := by omega
      by_cases h1 : d < 1
      · have HX := Lib.hid (show lokE L = 1 by unfold lokE; rw [lenB_bad hd.out (by unfold isLen; rw [decide_eq_false (show ¬ 1 ≤ d by omega)]; rfl)]; rfl)
        have e1 : decide (d < 1) = true := by simpa using h1
        clear h1
        go_wp2_with fail
        go_ret
        exact ⟨by rw [HX.out]; rfl, rfl⟩
      · have e1 : decide (d < 1) = false := by simpa using h1
        by_cases h2 : 12 < d
        · have HX := Lib.hid (show lokE L = 1 by unfold lokE; rw [lenB_bad hd.out (by unfold isLen; rw [decide_eq_false (show ¬ d ≤ 12 by omega), Bool.and_false])]; rfl)
          have e2 : decide (12 < d) = true := by simpa using h2
          clear h1 h2
          go_wp2_with fail
          go_ret
          exact ⟨by rw [HX.out]; rfl, rfl⟩
        · have e2 : decide (12 < d) = false := by simpa using h2
          have HX := Lib.hid (len_next hd.out (by unfold isLen; rw [decide_eq_true (show 1 ≤ d by omega), decide_eq_true (show d ≤ 12 by omega)]; rfl) HA.out)
          clear h1 h2
          go_wp2_with fail
          go_round
          case rel => exact ⟨k + 1, by omega, by go_num, HX.out⟩
          case measure => simp [intOf]; omega
    · have hks : k = L.length := by omega
      have HX := Lib.hid (show lokE L = 0 by unfold lokE; rw [HOK.out (by have := HA.out; rw [hks, List.take_length] at this; exact this)]; rfl)
      subst hks
      go_wp2_with fail
      go_ret
      exact ⟨by rw [HX.out]; rfl, rfl⟩
theorem sgN_next (v i : Nat) : (⟨#[if v.testBit i then 45 else 46]⟩ : ByteArray) ++ sgN v i = sgN v (i + 1) := by
  have e : ∀ n, sgN v n = ofL ((List.range n).map fun j => if v.testBit (n - 1 - j) then (45 : UInt8) else 46) := fun n => rfl
  rw [e, e, ofL_cons, List.range_succ_eq_map, List.map_cons, List.map_map]
  congr 2
  refine List.map_congr_left fun j hj => ?_
  have := List.mem_range.1 hj
  simp only [Function.comp]
  rw [show i + 1 - 1 - (j + 1) = i - 1 - j by omega]
theorem odd_bit (v i : Nat) : v / 2 ^ i % 2 = if v.testBit i then 1 else 0 := bit_div
set_option maxRecDepth 4000 in
set_option maxHeartbeats 1000000 in
theorem binary_any (v n : Nat) (w : World) (hv : v < 1000000) (h12 : n ≤ 12) :
    Calls Try.prog 79 #[.int .i64 v, .int .i64 n] w fun e w' => e = .returned (.string (sgN v n)) ∧ w = w' := by
  go_enter Try.func79, Try.ntmps79
  go_wp2_with fail
  go_loop [0, 5, 6] (fun m s i => ∃ k : Nat, k ≤ n ∧ m = .int .i64 ((v / 2 ^ k : Nat) : Int) ∧ s = .string (sgN v k) ∧ i = .int .i64 k) (fun _ _ i => n - (intOf i).toNat)
  case atStart => exact ⟨0, by omega, by simp, rfl, rfl⟩
  case round =>
    obtain ⟨k, hk, rfl, rfl, rfl⟩ := hrel
    by_cases hlt : k < n
    · have HX := Lib.hid (sgN_next v k)
      have hob := odd_bit v k
      have HD := Lib.hid (show v / 2 ^ k / 2 = v / 2 ^ (k + 1) by rw [Nat.div_div_eq_div_mul, Nat.pow_succ])
      have hvk : v / 2 ^ k < 1000000 := Nat.lt_of_le_of_lt (Nat.div_le_self _ _) hv
      have hsz : (sgN v k).size ≤ 12 := by rw [sgN_size]; omega
      have hz5 : (⟨#[45]⟩ : ByteArray).size = 1 := rfl
      have hz6 : (⟨#[46]⟩ : ByteArray).size = 1 := rfl
      generalize v / 2 ^ k = m at *
      generalize sgN v k = s at *
      cases hb : v.testBit k
      · rw [hb] at hob
        simp only [hb] at HX
        have e1 : ((m : Int) % 2 == 1) = false := by simp at hob ⊢; omega
        have e2 : (m % 2 == 1) = false := by simp at hob ⊢; omega
        clear hb hob
        go_wp2_with fail
        go_round
        case rel => exact ⟨k + 1, by omega, by rw [← HD.out]; simp, by rw [← HX.out]; rfl, by go_num⟩
        case measure => simp [intOf]; omega
      · rw [hb] at hob
        simp only [hb] at HX
        have e1 : ((m : Int) % 2 == 1) = true := by simp at hob ⊢; omega
        have e2 : (m % 2 == 1) = true := by simp at hob ⊢; omega
        clear hb hob
        go_wp2_with fail
        go_round
        case rel => exact ⟨k + 1, by omega, by rw [← HD.out]; simp, by rw [← HX.out]; rfl, by go_num⟩
        case measure => simp [intOf]; omega
    · have hks : k = n := by omega
      subst hks
      go_wp2_with fail
      go_ret
      exact ⟨rfl, rfl⟩
end Go.Proofs.Ytjongjndoaojnaa

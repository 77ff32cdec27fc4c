/-
  CountBinomials: the walk. Every argument.
-/
import Derived.Test.YtgpghnhpbjnhkaaCc6
namespace Go.Proofs.Ytgpghnhpbjnhkaa
open Go.RowKit
set_option linter.unusedVariables false

theorem pascal {n k : Int} (h : allB [n, k] = true) (hn : n ≠ 0) (hk : k ≠ 0) : binV n k = binV (n - 1) (k - 1) + binV (n - 1) k ∧ binE (n - 1) (k - 1) = 0 ∧ binE (n - 1) k = 0 := by
  obtain ⟨h1, h2⟩ := allB2 h
  have a1 : allB [n - 1, k - 1] = true := allB2_iff.2 ⟨by omega, by omega⟩
  have a2 : allB [n - 1, k] = true := allB2_iff.2 ⟨by omega, by omega⟩
  obtain ⟨N, hN⟩ : ∃ N : Nat, n = ((N + 1 : Nat) : Int) := ⟨(n - 1).toNat, by omega⟩
  obtain ⟨K, hK⟩ : ∃ K : Nat, k = ((K + 1 : Nat) : Int) := ⟨(k - 1).toNat, by omega⟩
  refine ⟨?_, if_pos a1, if_pos a2⟩
  unfold binV
  rw [if_pos h, if_pos a1, if_pos a2, hN, hK, bI_nat, show ((N + 1 : Nat) : Int) - 1 = (N : Nat) by omega, show ((K + 1 : Nat) : Int) - 1 = (K : Nat) by omega, bI_nat, bI_nat]
  rfl
theorem binV_le (n k : Int) : binV n k ≤ 118264581564861424 := by
  unfold binV
  split
  · rename_i h
    obtain ⟨h1, h2⟩ := allB2 h
    unfold bI
    split
    · exact Nat.zero_le _
    · exact ch_small (by omega) _
  · exact Nat.zero_le _
set_option maxRecDepth 8000 in
set_option maxHeartbeats 2000000 in
theorem Binomials_walk (n k : Int) (w : World) : Calls Try.prog 3 #[.int .i64 n, .int .i64 k] w fun e w' => e = .returned (.bool true) ∧ Below w.heap.size w w' := by
  have H1 := Lib.hid (fun w => Binomial_any n k w)
  have H2 := Lib.hid (fun w => rBinomial_any n k w)
  have HKN := Lib.hid known_any
  cases hv : allB [n, k]
  · have HE : binE n k = 1 := by unfold binE; rw [hv]; rfl
    rw [HE] at H1 H2
    clear hv HE
    generalize binV n k = x at *
    have B0 := Lib.hid (Below.refl w.heap.size w)
    go_enter Try.func3, Try.ntmps3
    go_wp2_with fail
    refine (H1.out w).mono ?_
    rintro e w1 ⟨rfl, hb⟩
    have B1 := Lib.hid (B0.out.trans (hb.mono B0.out.size))
    clear hb
    go_wp2_with fail
    refine (H2.out w1).mono ?_
    rintro e w2 ⟨rfl, hb⟩
    have B2 := Lib.hid (B1.out.trans (hb.mono B1.out.size))
    clear hb
    go_wp2_with fail
    refine (HKN.out w2).mono ?_
    rintro e w3 ⟨rfl, hb⟩
    have B3 := Lib.hid (B2.out.trans (hb.mono B2.out.size))
    clear hb
    go_wp2_with fail
    go_ret
    exact ⟨rfl, B3.out⟩
  · have HE : binE n k = 0 := by unfold binE; rw [hv]; rfl
    rw [HE] at H1 H2
    by_cases hn : n = 0
    · have e1 : (n == 0) = true := by simpa using hn
      clear hv HE
      generalize binV n k = x at *
      clear hn
      have B0 := Lib.hid (Below.refl w.heap.size w)
      go_enter Try.func3, Try.ntmps3
      go_wp2_with fail
      refine (H1.out w).mono ?_
      rintro e w1 ⟨rfl, hb⟩
      have B1 := Lib.hid (B0.out.trans (hb.mono B0.out.size))
      clear hb
      go_wp2_with fail
      refine (H2.out w1).mono ?_
      rintro e w2 ⟨rfl, hb⟩
      have B2 := Lib.hid (B1.out.trans (hb.mono B1.out.size))
      clear hb
      go_wp2_with fail
      refine (HKN.out w2).mono ?_
      rintro e w3 ⟨rfl, hb⟩
      have B3 := Lib.hid (B2.out.trans (hb.mono B2.out.size))
      clear hb
      go_wp2_with fail
      go_ret
      exact ⟨rfl, B3.out⟩
    · have e1 : (n == 0) = false := by simpa using hn
      by_cases hk : k = 0
      · have e2 : (k == 0) = true := by simpa using hk
        clear hv HE hn
        generalize binV n k = x at *
        clear hk
        have B0 := Lib.hid (Below.refl w.heap.size w)
        go_enter Try.func3, Try.ntmps3
        go_wp2_with fail
        refine (H1.out w).mono ?_
        rintro e w1 ⟨rfl, hb⟩
        have B1 := Lib.hid (B0.out.trans (hb.mono B0.out.size))
        clear hb
        go_wp2_with fail
        refine (H2.out w1).mono ?_
        rintro e w2 ⟨rfl, hb⟩
        have B2 := Lib.hid (B1.out.trans (hb.mono B1.out.size))
        clear hb
        go_wp2_with fail
        refine (HKN.out w2).mono ?_
        rintro e w3 ⟨rfl, hb⟩
        have B3 := Lib.hid (B2.out.trans (hb.mono B2.out.size))
        clear hb
        go_wp2_with fail
        go_ret
        exact ⟨rfl, B3.out⟩
      · have e2 : (k == 0) = false := by simpa using hk
        obtain ⟨p1, p2, p3⟩ := pascal hv hn hk
        obtain ⟨h1, h2⟩ := allB2 hv
        have H3 := Lib.hid (fun w => Binomial_any (n - 1) (k - 1) w)
        have H4 := Lib.hid (fun w => Binomial_any (n - 1) k w)
        rw [p2] at H3
        rw [p3] at H4
        have l1 := binV_le n k
        clear hv HE p2 p3 hn hk
        generalize binV n k = x at *
        generalize binV (n - 1) (k - 1) = y at *
        generalize binV (n - 1) k = z at *
        have e3 : ((x : Int) == (y : Int) + (z : Int)) = true := by simp; omega
        have PP := Lib.hid p1
        have b1 : (y : Int) + (z : Int) ≤ 118264581564861424 := by omega
        clear p1
        have B0 := Lib.hid (Below.refl w.heap.size w)
        go_enter Try.func3, Try.ntmps3
        go_wp2_with fail
        refine (H1.out w).mono ?_
        rintro e w1 ⟨rfl, hb⟩
        have B1 := Lib.hid (B0.out.trans (hb.mono B0.out.size))
        clear hb
        go_wp2_with fail
        refine (H2.out w1).mono ?_
        rintro e w2 ⟨rfl, hb⟩
        have B2 := Lib.hid (B1.out.trans (hb.mono B1.out.size))
        clear hb
        go_wp2_with fail
        refine (H3.out w2).mono ?_
        rintro e w3 ⟨rfl, hb⟩
        have B3 := Lib.hid (B2.out.trans (hb.mono B2.out.size))
        clear hb
        go_wp2_with fail
        refine (H4.out w3).mono ?_
        rintro e w4 ⟨rfl, hb⟩
        have B4 := Lib.hid (B3.out.trans (hb.mono B3.out.size))
        clear hb
        go_wp2_with fail
        refine (HKN.out w4).mono ?_
        rintro e w5 ⟨rfl, hb⟩
        have B5 := Lib.hid (B4.out.trans (hb.mono B4.out.size))
        clear hb
        go_wp2_with fail
        go_ret
        exact ⟨rfl, B5.out⟩
end Go.Proofs.Ytgpghnhpbjnhkaa

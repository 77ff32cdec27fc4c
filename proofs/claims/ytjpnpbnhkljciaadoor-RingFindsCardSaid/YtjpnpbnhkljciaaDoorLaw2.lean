/-
  The walk of the law RingSums: it returns true. Conditions: 'Tabs', and that the slice can be read.
-/
import Derived.Test.YtjpnpbnhkljciaaDoorKno
namespace Go.Proofs.YtjpnpbnhkljciaaDoor
open Go.RowKit
set_option linter.unusedVariables false

theorem eInt : Elem Tryd.prog 28 3 (.int .i64 0) 1 8 := ⟨Tryd.underlying28, Tryd.infoInt, rfl, by decide, by decide⟩
theorem Sum_n (A : Option Addr) (n c : Nat) (l : List Int) (v e : Int) (w : World) (hlen : l.length = n) (hr : Rd w w.heap.size A (ints l)) (hn : n ≤ 1000) (ht : Tabs w) (hv : sumV l = v) (he : digE l 12 = e) :
    Calls Tryd.prog 22 #[.slice A n c] w fun e' w' => e' = .returned (.tuple #[.int .i64 v, .int .i64 e]) ∧ ∃ n, w' = w.drewN n := by
  subst hlen; subst hv; subst he
  exact Sum_any A c l w hr hn ht
theorem chk_zero {l : List Int} (h : digE l 11 = 0) : sumV (l ++ [chkV l]) = 0 ∧ digE (l ++ [chkV l]) 12 = 0 := by
  obtain ⟨hn, hl⟩ := digE_zero h
  have hc : chkV l = chkD l := if_pos h
  rw [hc]
  have hD := dig_app hl (dig_chk hl)
  have h2 : digE (l ++ [chkD l]) 12 = 0 := digE_ok (by simp; omega) (allDig_iff.2 hD)
  exact ⟨by rw [sumV, if_pos h2]; exact (chk_iff hl (dig_chk hl)).2 rfl, h2⟩
set_option maxHeartbeats 400000 in
theorem RingSums_walk (A : Option Addr) (c : Nat) (l : List Int) (w : World) (hr : Rd w w.heap.size A (ints l)) (ht : Tabs w) (hm : l.length ≤ c) (hcm : c ≤ maxLen) :
    Calls Tryd.prog 5 #[.slice A l.length c] w fun e w' => e = .returned (.bool true) ∧ Below w.heap.size w w' := by
  have HT := Lib.hid ht
  have HR := Lib.hid hr
  clear ht hr
  unfold maxLen at hcm
  by_cases hn : (60 : Int) < (l.length : Int)
  · go_enter Tryd.func5, Tryd.ntmps5
    go_wp2_with fail
    refine (known_ok w HT.out).mono ?_
    rintro e w' ⟨rfl, hb⟩
    go_wp2_with fail
    go_ret
    exact ⟨rfl, hb⟩
  · have C1 := Lib.hid (Sum_any A c l w HR.out (by omega) HT.out)
    obtain ⟨a, ha⟩ : ∃ a, sumV l = a := ⟨_, rfl⟩
    obtain ⟨e, he⟩ : ∃ e, digE l 12 = e := ⟨_, rfl⟩
    obtain ⟨k, hk⟩ : ∃ k, chkV l = k := ⟨_, rfl⟩
    obtain ⟨f, hf⟩ : ∃ f, digE l 11 = f := ⟨_, rfl⟩
    have HZ := Lib.hid (@chk_zero l)
    have H1 := Lib.hid ha
    have H2 := Lib.hid he
    have H3 := Lib.hid hk
    have H4 := Lib.hid hf
    rw [ha, he] at C1
    rw [hk, hf] at HZ
    have R1 : ∀ W, Rd W W.heap.size A (ints l) → Calls Tryd.prog 23 #[.slice A l.length c] W fun e' w' => e' = .returned (.tuple #[.int .i64 a, .int .i64 e]) ∧ W = w' := by
      intro W h; have := rSum_any A c l W h (by omega); rw [ha, he] at this; exact this
    have R2 : ∀ W, Rd W W.heap.size A (ints l) → Tabs W → Calls Tryd.prog 24 #[.slice A l.length c] W fun e' w' => e' = .returned (.tuple #[.int .i64 k, .int .i64 f]) ∧ Below W.heap.size W w' := by
      intro W h t; have := CheckDigit_any A c l W h (by omega) t; rw [hk, hf] at this; exact this
    have R3 : ∀ W, Rd W W.heap.size A (ints l) → Calls Tryd.prog 25 #[.slice A l.length c] W fun e' w' => e' = .returned (.tuple #[.int .i64 k, .int .i64 f]) ∧ Below W.heap.size W w' := by
      intro W h; have := rCheckDigit_any A c l W h (by omega); rw [hk, hf] at this; exact this
    have Q1 := Lib.hid R1
    have Q2 := Lib.hid R2
    have Q3 := Lib.hid R3
    clear R1 R2 R3 ha he hk hf
    by_cases h0 : f = 0
    · subst h0
      have hz := HZ.out rfl
      have Z1 := Lib.hid hz.1
      have Z2 := Lib.hid hz.2
      clear hz HZ
      go_enter Tryd.func5, Tryd.ntmps5
      go_wp2_with fail
      refine C1.out.mono ?_
      rintro e w' ⟨rfl, m, rfl⟩
      go_wp2_with fail
      refine (Q1.out _ (HR.out.drewN m)).mono ?_
      rintro e w' ⟨rfl, rfl⟩
      go_wp2_with fail
      refine (Q2.out _ (HR.out.drewN m) (HT.out.drewN m)).mono ?_
      rintro e w1 ⟨rfl, hb⟩
      have B1 := Lib.hid (show Below w.heap.size w w1 from (below_drewN (Below.refl _ _) m).trans hb)
      clear hb
      go_wp2_with fail
      refine (Q3.out _ ((HR.out.below B1.out (Nat.le_refl _)).more B1.out.size)).mono ?_
      rintro e w2 ⟨rfl, hb⟩
      have B2 := Lib.hid (show Below w.heap.size w w2 from B1.out.trans (hb.mono B1.out.size))
      clear hb
      have O0 := Lib.hid (own_lit w2 3 1 B2.out.size)
      have B3 := Lib.hid (B2.out.alloc B2.out.size (.cells #[] 3))
      have S3 := Lib.hid B3.out.size
      go_wp2_with (first
        | ((with_reducible show wpList _ _ _ (⟨some 61, _, _, _, _, _⟩ :: _) _ _); refine app eInt rfl (.tmp 59) (.tmp 60) rfl rfl O0.out B3.out S3.out rfl (HR.out.below B3.out (Nat.le_refl _)) (by simp [ints]) (ints_one _) l.length (by omega) (by omega) ?_; intro A4 c4 w4 o4 b4 _ _; have O4 := Lib.hid o4; have B4 := Lib.hid b4; clear o4 b4)
        | ((with_reducible show wpList _ _ _ (⟨some 64, _, _, _, _, _⟩ :: _) _ _); refine app eInt rfl (.tmp 61) (.tmp 63) rfl rfl (O4.out.alloc _) (B4.out.alloc B4.out.size (.cells #[.int .i64 k] 3)) (size_alloc' B4.out.size _) rfl (Rd.one w4 (.int .i64 k) 3 (Nat.lt_succ_self _)) (by simp) (ints_one [k]) (l.length + 1) rfl (by omega) ?_; intro A5 c5 w5 o5 b5 _ _; have O5 := Lib.hid (show w5.ownsRow w.heap.size 3 1 (.slice A5 (l.length + 1) c5) (l.length + 1) (ints (l ++ [k])) by simpa [ints] using o5); have B5 := Lib.hid b5; clear o5 b5))
      refine (Sum_n A5 _ c5 (l ++ [k]) 0 0 w5 (by simp) (Rd.of_own O5.out) (by omega) (HT.out.below' B5.out) Z1.out Z2.out).mono ?_
      rintro e w' ⟨rfl, m', rfl⟩
      go_wp2_with fail
      refine (known_ok _ ((HT.out.below' B5.out).drewN m')).mono ?_
      rintro e w' ⟨rfl, hb⟩
      go_wp2_with fail
      go_ret
      exact ⟨rfl, (below_drewN B5.out m').trans (hb.mono B5.out.size)⟩
    · have hf : (f == 0) = false := by simpa using h0
      have hf' : (f != 0) = true := by simpa using h0
      clear h0
      go_enter Tryd.func5, Tryd.ntmps5
      go_wp2_with fail
      refine C1.out.mono ?_
      rintro e w' ⟨rfl, m, rfl⟩
      go_wp2_with fail
      refine (Q1.out _ (HR.out.drewN m)).mono ?_
      rintro e w' ⟨rfl, rfl⟩
      go_wp2_with fail
      refine (Q2.out _ (HR.out.drewN m) (HT.out.drewN m)).mono ?_
      rintro e w1 ⟨rfl, hb⟩
      have B1 := Lib.hid (show Below w.heap.size w w1 from (below_drewN (Below.refl _ _) m).trans hb)
      clear hb
      go_wp2_with fail
      refine (Q3.out _ ((HR.out.below B1.out (Nat.le_refl _)).more B1.out.size)).mono ?_
      rintro e w2 ⟨rfl, hb⟩
      have B2 := Lib.hid (show Below w.heap.size w w2 from B1.out.trans (hb.mono B1.out.size))
      clear hb
      go_wp2_with fail
      refine (known_ok _ (HT.out.below' B2.out)).mono ?_
      rintro e w' ⟨rfl, hb⟩
      go_wp2_with fail
      go_ret
      exact ⟨rfl, B2.out.trans (hb.mono B2.out.size)⟩
end Go.Proofs.YtjpnpbnhkljciaaDoor

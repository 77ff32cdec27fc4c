/-
  The walks of the reference's digits, sum, Sum, checkDigit, CheckDigit and of package ring's CheckDigit; 'known'. Conditions: 'TabsR' where package ring reads its tables.
-/
import Derived.Test.YtoenecgjiejljaaDoorChk
namespace Go.Proofs.YtoenecgjiejljaaDoor
open Go.RowKit
set_option linter.unusedVariables false

def chkV (l : List Int) : Int := if digE l 11 = 0 then chkD l else 0
theorem CheckDigit_any (A : Option Addr) (c : Nat) (l : List Int) (w : World) (hr : Rd w w.heap.size A (ints l)) (hn : l.length ≤ 900) (ht : TabsR w) :
    Calls Tryd.prog 35 #[.slice A l.length c] w fun e w' => e = .returned (.tuple #[.int .i64 (chkV l), .int .i64 (digE l 11)]) ∧ Below w.heap.size w w' := by
  have HT := Lib.hid ht
  have HR := Lib.hid hr
  clear ht hr
  unfold chkV
  by_cases h : digE l 11 = 0
  · rw [if_pos h]
    have h0 := digE_zero h
    have HL := Lib.hid h0.2
    have HV := Lib.hid (validate_any A c l 11 w HR.out (by omega))
    rw [h] at HV ⊢
    clear h0 h
    go_enter Tryd.func35, Tryd.ntmps35
    go_wp2_with fail
    refine HV.out.mono ?_
    rintro e w' ⟨rfl, rfl⟩
    go_wp2_with fail
    refine (checkDigit_ok A c l w HR.out HL.out hn HT.out).mono ?_
    rintro e w' ⟨rfl, hb⟩
    go_wp2_with fail
    go_ret2
    exact ⟨rfl, hb⟩
  · rw [if_neg h]
    have HV := Lib.hid (validate_any A c l 11 w HR.out (by omega))
    generalize digE l 11 = E at *
    have hE : (E == 0) = false := by simpa using h
    have hE' : (E != 0) = true := by simpa using h
    clear h
    go_enter Tryd.func35, Tryd.ntmps35
    go_wp2_with fail
    refine HV.out.mono ?_
    rintro e w' ⟨rfl, rfl⟩
    go_wp2_with fail
    go_ret2
    exact ⟨rfl, Below.refl _ _⟩

/-! ### The reference's -/
theorem rturned_nat (x T n : Int) (k : Nat) (w : World) (hx : Dig x) (h1 : k ≤ 1000) (hn : n = k) (hT : turnN k x = T) :
    Calls Tryd.prog 109 #[.int .i64 x, .int .i64 n] w fun e w' => e = .returned (.int .i64 T) ∧ w = w' := by
  subst hT; subst hn
  have := rturned_ok x k w hx (by omega) (by omega)
  simpa using this
theorem rsum_n (A : Option Addr) (n c : Nat) (l : List Int) (w : World) (hlen : l.length = n) (hr : Rd w w.heap.size A (ints l)) (hl : ∀ x ∈ l, Dig x) (hn : n ≤ 1000) :
    Calls Tryd.prog 57 #[.slice A n c] w fun e w' => e = .returned (.int .i64 (sumL l)) ∧ w = w' := by
  subst hlen
  have HR := Lib.hid hr
  have HL := Lib.hid hl
  clear hr hl
  go_enter Tryd.func57, Tryd.ntmps57
  go_wp2
  go_loop [3, 4] (fun t i => ∃ k : Nat, k ≤ l.length ∧ i = .int .i64 ((l.length : Int) - 1 - k) ∧ t = .int .i64 (sumL (l.drop (l.length - k)))) (fun _ i => (intOf i + 1).toNat)
  case atStart => exact ⟨0, by omega, by simp, by simp [sumL]⟩
  case round =>
    obtain ⟨k, hk, rfl, rfl⟩ := hrel
    by_cases hlt : k < l.length
    · obtain ⟨b, o, d, rfl, hd, hc⟩ := HR.out.int (l.length - 1 - k) (by omega)
      have HS := Lib.hid (drop_step hlt hd)
      have hS := dig_drop HL.out (l.length - k)
      have hdd := dig_at HL.out hd
      have Hd := Lib.hid hdd
      have hT := dig_turn hdd k
      generalize hs : sumL (l.drop (l.length - k)) = S at *
      generalize ht : turnN k d = T at *
      have H1 := Lib.hid ht
      have H3 := Lib.hid hS
      have H4 := Lib.hid hT
      clear ht hs hdd hS hT
      go_wp2_with (first | (go_at_call 109; refine (rturned_nat d T _ k w Hd.out (by omega) (by omega) H1.out).mono ?_; rintro e w' ⟨rfl, rfl⟩) | (go_at_call 108; refine (rtimes_ok S T w H3.out H4.out).mono ?_; rintro e w' ⟨rfl, rfl⟩))
      go_round
      case rel => exact ⟨k + 1, by omega, by go_num, by rw [HS.out]⟩
      case measure => simp [intOf]; omega
    · have hk' : k = l.length := by omega
      have HK := Lib.hid hk'
      clear hk'
      go_wp2
      go_ret
      exact ⟨by rw [HK.out]; simp, rfl⟩
theorem rsum_is (A : Option Addr) (n c : Nat) (l : List Int) (S : Int) (w : World) (hS : sumL l = S) (hlen : l.length = n) (hr : Rd w w.heap.size A (ints l)) (hl : ∀ x ∈ l, Dig x) (hn : n ≤ 1000) :
    Calls Tryd.prog 57 #[.slice A n c] w fun e w' => e = .returned (.int .i64 S) ∧ w = w' := by
  subst hS; exact rsum_n A n c l w hlen hr hl hn
theorem rcheck_ok (A : Option Addr) (c : Nat) (l : List Int) (w : World) (hr : Rd w w.heap.size A (ints l)) (hl : ∀ x ∈ l, Dig x) (hn : l.length ≤ 900) :
    Calls Tryd.prog 105 #[.slice A l.length c] w fun e w' => e = .returned (.int .i64 (chkD l)) ∧ Below w.heap.size w w' := by
  have HR := Lib.hid hr
  have HL := Lib.hid hl
  clear hr hl
  obtain ⟨i0, hi, hz0, hz1, hz2⟩ := info_parts Tryd.infoInt
  have hC := dig_chk HL.out
  have HC := Lib.hid hC
  obtain ⟨c0, c9⟩ := hC
  go_enter Tryd.func105, Tryd.ntmps105
  go_wp2
  go_loopw [3] (fun i wr => ∃ k : Int, 0 ≤ k ∧ k ≤ chkD l ∧ k ≤ 9 ∧ i = .int .i64 k ∧ Below w.heap.size w wr) (fun i _ => (9 - intOf i).toNat)
  case atStart => exact ⟨0, by omega, by omega, by omega, rfl, Below.refl _ _⟩
  case round =>
    obtain ⟨k, hk0, hk, hk9, rfl, hb⟩ := hrel
    have HB := Lib.hid hb
    have HR' := Lib.hid (HR.out.below hb (Nat.le_refl _))
    clear hb
    by_cases hlt : k < 9
    · have hdk : Dig k := ⟨hk0, hk9⟩
      have HK := Lib.hid hdk
      have hS := chk_iff HL.out hdk
      clear hdk
      obtain ⟨S, hs⟩ : ∃ S, sumL (l ++ [k]) = S := ⟨_, rfl⟩
      rw [hs] at hS
      have H1 := Lib.hid hs
      clear hs
      have O0 := Lib.hid (show (wr.alloc (.cells #[] 3)).ownsRow w.heap.size 3 1 (.slice (some ⟨wr.heap.size, 0, none⟩) 0 0) 0 [] from World.ownsRow_lit wr #[] 0 HB.out.size (Nat.zero_le _) rfl)
      have B0 := Lib.hid (show Below w.heap.size w (wr.alloc (.cells #[] 3)) from HB.out.alloc HB.out.size _)
      have S0 := Lib.hid (show w.heap.size ≤ (wr.alloc (.cells #[] 3)).heap.size from B0.out.size)
      by_cases hk' : k = chkD l
      · have ht : (S == 0) = true := by simpa using hS.2 hk'
        have H2 := Lib.hid hk'
        clear hS hk'
        go_wp2_with (first
          | ((with_reducible show wpList _ _ _ (⟨some 10, _, _, _, _, _⟩ :: _) _ _); go_loud (refine wpList_app _ rfl (.tmp 8) (.tmp 9) 53 rfl w.heap.size 3 i0 (.int .i64 0) 1 8 Tryd.underlying53 hi hz0 hz1 hz2 rfl (by decide) _ 0 [] rfl O0.out w.heap.size A l.length c (ints l) rfl (by simp [ints]) (HR.out.below B0.out (Nat.le_refl _)) (ints_one _) (by simp only [maxLen]; omega) (by omega) S0.out ?_); intro v1 w1 hown1 hg1 hat1; have O1 := Lib.hid hown1; have B1 := Lib.hid (Below.app B0.out O0.out hg1 S0.out (Nat.le_refl w.heap.size)); clear hown1 hg1 hat1)
          | ((with_reducible show wpList _ _ _ (⟨some 13, _, _, _, _, _⟩ :: _) _ _); go_loud (refine wpList_app _ rfl (.tmp 10) (.tmp 12) 53 rfl w.heap.size 3 i0 (.int .i64 0) 1 8 Tryd.underlying53 hi hz0 hz1 hz2 rfl (by decide) _ _ _ rfl (O1.out.alloc _) (w1.heap.size + 1) _ 1 1 (ints [k]) rfl rfl (Rd.one w1 _ _ (Nat.lt_succ_self _)) (ints_one _) (by simp only [maxLen]; omega) (by omega) (by have := B1.out.size; simp; omega) ?_); intro v2 w2 hown2 hg2 hat2; have B2 := Lib.hid (Below.app (B1.out.alloc B1.out.size (.cells #[.int .i64 k] 3)) (O1.out.alloc _) hg2 (by have := B1.out.size; simp; omega) (Nat.le_refl w.heap.size)); obtain ⟨A2, c2, rfl, _⟩ := own_form hown2; have O2 := Lib.hid hown2; clear hown2 hg2 hat2)
          | (go_at_call 57; go_loud (refine (rsum_is A2 _ c2 (l ++ [k]) S w2 H1.out (by simp) (by have := Rd.of_own O2.out; simpa [ints] using this) (dig_app HL.out HK.out) (by omega)).mono ?_); rintro e w' ⟨rfl, rfl⟩))

        go_ret
        exact ⟨by rw [← H2.out]; rfl, B2.out⟩
      · have ht : (S == 0) = false := by simpa using fun h => hk' (hS.1 h)
        have hlt' : k < chkD l := by omega
        clear hS hk'
        go_wp2_with (first
          | ((with_reducible show wpList _ _ _ (⟨some 10, _, _, _, _, _⟩ :: _) _ _); go_loud (refine wpList_app _ rfl (.tmp 8) (.tmp 9) 53 rfl w.heap.size 3 i0 (.int .i64 0) 1 8 Tryd.underlying53 hi hz0 hz1 hz2 rfl (by decide) _ 0 [] rfl O0.out w.heap.size A l.length c (ints l) rfl (by simp [ints]) (HR.out.below B0.out (Nat.le_refl _)) (ints_one _) (by simp only [maxLen]; omega) (by omega) S0.out ?_); intro v1 w1 hown1 hg1 hat1; have O1 := Lib.hid hown1; have B1 := Lib.hid (Below.app B0.out O0.out hg1 S0.out (Nat.le_refl w.heap.size)); clear hown1 hg1 hat1)
          | ((with_reducible show wpList _ _ _ (⟨some 13, _, _, _, _, _⟩ :: _) _ _); go_loud (refine wpList_app _ rfl (.tmp 10) (.tmp 12) 53 rfl w.heap.size 3 i0 (.int .i64 0) 1 8 Tryd.underlying53 hi hz0 hz1 hz2 rfl (by decide) _ _ _ rfl (O1.out.alloc _) (w1.heap.size + 1) _ 1 1 (ints [k]) rfl rfl (Rd.one w1 _ _ (Nat.lt_succ_self _)) (ints_one _) (by simp only [maxLen]; omega) (by omega) (by have := B1.out.size; simp; omega) ?_); intro v2 w2 hown2 hg2 hat2; have B2 := Lib.hid (Below.app (B1.out.alloc B1.out.size (.cells #[.int .i64 k] 3)) (O1.out.alloc _) hg2 (by have := B1.out.size; simp; omega) (Nat.le_refl w.heap.size)); obtain ⟨A2, c2, rfl, _⟩ := own_form hown2; have O2 := Lib.hid hown2; clear hown2 hg2 hat2)
          | (go_at_call 57; go_loud (refine (rsum_is A2 _ c2 (l ++ [k]) S w2 H1.out (by simp) (by have := Rd.of_own O2.out; simpa [ints] using this) (dig_app HL.out HK.out) (by omega)).mono ?_); rintro e w' ⟨rfl, rfl⟩))

        go_roundw
        case rel => exact ⟨k + 1, by omega, by omega, by omega, rfl, B2.out⟩
        case measure => simp [intOf]; omega
    · have hk' : (9 : Int) = chkD l := by omega
      have H2 := Lib.hid hk'
      clear hk'
      go_wp2
      go_ret
      exact ⟨by rw [← H2.out]; rfl, HB.out⟩
end Go.Proofs.YtoenecgjiejljaaDoor

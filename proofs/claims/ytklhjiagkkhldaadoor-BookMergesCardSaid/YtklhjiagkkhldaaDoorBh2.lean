/-
  Numerals and lines in the reference: the walks of Digit, Number, first, number, line. Conditions: sizes.
-/
import Derived.Test.YtklhjiagkkhldaaDoorBt4
import Derived.Test.YtklhjiagkkhldaaDoorBh1
namespace Go.Proofs.YtklhjiagkkhldaaDoor
open Go.RowKit
set_option linter.unusedVariables false

/-- A text of bytes. -/
def sL (l : List UInt8) : ByteArray := ⟨l.toArray⟩
theorem bl_sL (l : List UInt8) : bl (sL l) = l := by simp [bl, sL]
theorem sL_bl (s : ByteArray) : sL (bl s) = s := bl_inj (bl_sL _)
theorem bl_app (a b : ByteArray) : bl (a ++ b) = bl a ++ bl b := by
  unfold bl
  rw [ByteArray.data_append]
  simp
theorem sL_app (a b : List UInt8) : sL a ++ sL b = sL (a ++ b) := bl_inj (by rw [bl_app, bl_sL, bl_sL, bl_sL])
theorem sL_size (l : List UInt8) : (sL l).size = l.length := by rw [← bl_len, bl_sL]
theorem bl_extract (s : ByteArray) (a b : Nat) : bl (s.extract a b) = ((bl s).drop a).take (b - a) := by
  unfold bl
  rw [ByteArray.data_extract, Array.toList_extract]
theorem dig_str (n : Nat) (h : n < 10) : (⟨#[48, 49, 50, 51, 52, 53, 54, 55, 56, 57]⟩ : ByteArray).extract n (n + 1) = sL [UInt8.ofNat (48 + n)] := by
  have : ∀ k : Fin 10, bl ((⟨#[48, 49, 50, 51, 52, 53, 54, 55, 56, 57]⟩ : ByteArray).extract k.1 (k.1 + 1)) = [UInt8.ofNat (48 + k.1)] := by decide +kernel
  exact bl_inj (by rw [this ⟨n, h⟩, bl_sL])
def dg1 (n : Nat) : ByteArray := sL [UInt8.ofNat (48 + n)]
theorem Digit_any (n : Nat) (h : n < 10) (w : World) : Calls Tryd.prog 54 #[.int .i64 n] w fun e w' => e = .returned (.string (dg1 n)) ∧ w = w' := by
  have HD := Lib.hid (show _ = dg1 n from dig_str n h)
  have b0 : (0 : Int) ≤ (n : Int) := by omega
  have b1 : (n : Int) ≤ (n : Int) + 1 := by omega
  have b2 : (n : Int) + 1 ≤ 10 := by omega
  have b3 : (0 : Int) ≤ (n : Int) + 1 := by omega
  have q1 : ((n : Int) + 1).toNat = n + 1 := by omega
  go_enter Tryd.func54, Tryd.ntmps54
  go_wp2_with fail
  go_ret
  exact ⟨by rw [← HD.out]; rfl, rfl⟩
set_option maxHeartbeats 1000000 in
theorem Number_any : ∀ (n : Nat) (w : World), n < 10000000000 → Calls Tryd.prog 41 #[.int .i64 n] w fun e w' => e = .returned (.string (sL (D n))) ∧ w = w' := by
  intro n
  induction n using Nat.strongRecOn with
  | _ n ih =>
    intro w hn
    by_cases h : n < 10
    · have HD := Lib.hid (Digit_any n h w)
      have HX := Lib.hid (show sL (D n) = dg1 n by rw [D_small h]; rfl)
      have e1 : decide ((n : Int) < 10) = true := decide_eq_true (by omega)
      have e1' : decide (n < 10) = true := decide_eq_true h
      rw [HX.out]
      clear ih h
      go_enter Tryd.func41, Tryd.ntmps41
      go_wp2_with fail
      refine (HD.out).mono ?_
      rintro e w' ⟨rfl, rfl⟩
      go_wp2_with fail
      go_ret
      exact ⟨rfl, rfl⟩
    · have HD := Lib.hid (fun w => Digit_any (n % 10) (by omega) w)
      have HC := Lib.hid (fun w => ih (n / 10) (by omega) w (by omega))
      have HX := Lib.hid (show sL (D n) = sL (D (n / 10)) ++ dg1 (n % 10) by rw [D_big h, ← sL_app]; rfl)
      have l1 := D_len 9 (n / 10) (by omega)
      have z1 : (sL (D (n / 10))).size ≤ 100 := by rw [sL_size]; omega
      have z2 : (dg1 (n % 10)).size ≤ 100 := by unfold dg1; rw [sL_size]; simp
      rw [HX.out]
      generalize sL (D (n / 10)) = a at *
      generalize dg1 (n % 10) = b at *
      have e1 : decide ((n : Int) < 10) = false := decide_eq_false (by omega)
      have e1' : decide (n < 10) = false := decide_eq_false h
      have q1 : Int.tdiv (n : Int) 10 = ((n / 10 : Nat) : Int) := by rw [Int.tdiv_eq_ediv_of_nonneg (by omega)]; rfl
      have q2 : Int.tmod (n : Int) 10 = ((n % 10 : Nat) : Int) := by rw [Int.tmod_eq_emod_of_nonneg (by omega)]; rfl
      clear ih l1
      go_enter Tryd.func41, Tryd.ntmps41
      go_wp2_with fail
      refine (HC.out _).mono ?_
      rintro e w' ⟨rfl, rfl⟩
      go_wp2_with fail
      refine (HD.out _).mono ?_
      rintro e w' ⟨rfl, rfl⟩
      go_wp2_with fail
      go_ret
      exact ⟨rfl, rfl⟩
/-- The first line of a book, with its line feed. -/
def hdL (n x : Nat) : List UInt8 := canon n x ++ [10]
theorem hd_parts (n x : Nat) : ((((⟨#[112, 97, 103, 101, 115, 32]⟩ : ByteArray) ++ sL (D n)) ++ (⟨#[32]⟩ : ByteArray)) ++ sL (D x)) ++ (⟨#[10]⟩ : ByteArray) = sL (hdL n x) := by
  have e1 : (⟨#[112, 97, 103, 101, 115, 32]⟩ : ByteArray) = sL pgW := rfl
  have e2 : (⟨#[32]⟩ : ByteArray) = sL [32] := rfl
  have e3 : (⟨#[10]⟩ : ByteArray) = sL [10] := rfl
  rw [e1, e2, e3, sL_app, sL_app, sL_app, sL_app]
  unfold hdL canon
  simp
theorem first_any (n x : Nat) (w : World) (hn : n < 10000000000) (hx : x < 10000000000) : Calls Tryd.prog 25 #[.int .i64 n, .int .i64 x] w fun e w' => e = .returned (.string (sL (hdL n x))) ∧ w = w' := by
  have H1 := Lib.hid (fun w => Number_any n w hn)
  have H2 := Lib.hid (fun w => Number_any x w hx)
  have HP := Lib.hid (hd_parts n x)
  have l1 := D_len 9 n (by omega)
  have l2 := D_len 9 x (by omega)
  have z1 : (sL (D n)).size ≤ 100 := by rw [sL_size]; omega
  have z2 : (sL (D x)).size ≤ 100 := by rw [sL_size]; omega
  generalize sL (D n) = a at *
  generalize sL (D x) = b at *
  have z3 : (⟨#[112, 97, 103, 101, 115, 32]⟩ : ByteArray).size = 6 := rfl
  have z4 : (⟨#[32]⟩ : ByteArray).size = 1 := rfl
  have z5 : (⟨#[10]⟩ : ByteArray).size = 1 := rfl
  clear l1 l2
  go_enter Tryd.func25, Tryd.ntmps25
  go_wp2_with fail
  refine (H1.out _).mono ?_
  rintro e w' ⟨rfl, rfl⟩
  go_wp2_with fail
  refine (H2.out _).mono ?_
  rintro e w' ⟨rfl, rfl⟩
  go_wp2_with fail
  go_ret
  exact ⟨by rw [← HP.out]; rfl, rfl⟩
theorem val_snoc (l : List UInt8) (c : UInt8) : valN 0 (l ++ [c]) = valN 0 l * 10 + (c.toNat - 48) := by
  unfold valN
  rw [List.foldl_append]
  rfl
theorem val_lt : ∀ (l : List UInt8) (a : Nat), (∀ c ∈ l, isDg c = true) → valN a l < (a + 1) * 10 ^ l.length
  | [], a, _ => by simp [valN]
  | c :: r, a, h => by
    have h1 := isDg_iff.1 (h c (by simp))
    have h2 := val_lt r (valG a c) (fun x hx => h x (by simp [hx]))
    have h3 : valG a c + 1 ≤ (a + 1) * 10 := by unfold valG; omega
    show valN (valG a c) r < _
    rw [List.length_cons, Nat.pow_succ, Nat.mul_comm (10 ^ r.length) 10, ← Nat.mul_assoc]
    exact Nat.lt_of_lt_of_le h2 (Nat.mul_le_mul_right _ h3)
/-- What number reads: the numeral of at most ten digits, or -1. -/
def nmI (l : List UInt8) : Int := if l.length ≤ 10 ∧ l = D (valN 0 l) then (valN 0 l : Int) else -1
theorem nm_ok {l : List UInt8} {u : Nat} (h : nmI l = (u : Int)) : l = D u := by
  unfold nmI at h
  split at h
  · rename_i h1
    have : valN 0 l = u := by omega
    rw [this] at h1
    exact h1.2
  · omega
theorem nm_D {u : Nat} (h : u < 10000000000) : nmI (D u) = (u : Int) := by
  unfold nmI
  rw [if_pos ⟨D_len 9 u (by omega), by rw [D_val]⟩, D_val]
theorem nm_ge (l : List UInt8) : -1 ≤ nmI l := by
  unfold nmI
  split <;> omega
theorem nm_lt (l : List UInt8) : nmI l < 10000000000 := by
  unfold nmI
  split
  · rename_i h
    have h1 : ∀ c ∈ l, isDg c = true := by rw [h.2]; exact D_dig _
    have h2 := val_lt l 0 h1
    have h3 : 10 ^ l.length ≤ 10 ^ 10 := Nat.pow_le_pow_right (by omega) h.1
    omega
  · omega
theorem dg_cases (c : UInt8) : (decide ((c.toNat : Int) < 48) = true ∧ decide (c.toNat < 48) = true ∧ isDg c = false) ∨ (decide ((c.toNat : Int) < 48) = false ∧ decide (c.toNat < 48) = false ∧ decide ((57 : Int) < (c.toNat : Int)) = true ∧ decide (57 < c.toNat) = true ∧ isDg c = false) ∨ (decide ((c.toNat : Int) < 48) = false ∧ decide (c.toNat < 48) = false ∧ decide ((57 : Int) < (c.toNat : Int)) = false ∧ decide (57 < c.toNat) = false ∧ isDg c = true ∧ 48 ≤ c.toNat ∧ c.toNat ≤ 57) := by
  unfold isDg
  by_cases h : c.toNat < 48
  · exact .inl ⟨decide_eq_true (by omega), decide_eq_true h, by rw [decide_eq_false (by omega)]; rfl⟩
  · by_cases h2 : 57 < c.toNat
    · exact .inr (.inl ⟨decide_eq_false (by omega), decide_eq_false h, decide_eq_true (by omega), decide_eq_true h2, by rw [decide_eq_true (by omega), decide_eq_false (by omega)]; rfl⟩)
    · exact .inr (.inr ⟨decide_eq_false (by omega), decide_eq_false h, decide_eq_false (by omega), decide_eq_false h2, by rw [decide_eq_true (by omega), decide_eq_true (by omega)]; rfl, by omega, by omega⟩)
theorem nm_bad {l : List UInt8} {k : Nat} {c : UInt8} (hk : l[k]? = some c) (hc : isDg c = false) : nmI l = -1 := by
  unfold nmI
  rw [if_neg]
  intro h
  have := D_dig _ c (h.2 ▸ List.mem_of_getElem? hk)
  rw [hc] at this
  cases this
theorem nm_long {l : List UInt8} (h : 10 < l.length) : nmI l = -1 := by
  unfold nmI
  rw [if_neg (by omega)]
set_option maxHeartbeats 2000000 in
theorem number_any (s : ByteArray) (w : World) (hsz : s.size ≤ 10000) : Calls Tryd.prog 59 #[.string s] w fun e w' => e = .returned (.int .i64 (nmI (bl s))) ∧ w = w' := by
  go_enter Tryd.func59, Tryd.ntmps59
  go_wp2_with fail
  go_loop [3, 4] (fun v i => ∃ k : Nat, k ≤ s.size ∧ k ≤ 10 ∧ i = .int .i64 k ∧ v = .int .i64 (valN 0 ((bl s).take k) : Nat) ∧ ∀ c ∈ (bl s).take k, isDg c = true) (fun _ i => s.size - (intOf i).toNat)
  case atStart => exact ⟨0, by omega, by omega, rfl, rfl, by simp⟩
  case round =>
    obtain ⟨k, hk, hk10, rfl, rfl, hall⟩ := hrel
    have HA := Lib.hid hall
    clear hall
    by_cases hlt : k < s.size
    · have HG := Lib.hid (bl_at s k hlt)
      generalize hc : (s[k]'hlt) = c at *
      rcases dg_cases c with ⟨h1, h1', h3⟩ | ⟨h1, h1', h2, h2', h3⟩ | ⟨h1, h1', h2, h2', h3, h4, h5⟩
      · have HF := Lib.hid (nm_bad HG.out h3)
        clear h3
        go_wp2_with fail
        go_ret
        exact ⟨by rw [HF.out]; rfl, rfl⟩
      · have HF := Lib.hid (nm_bad HG.out h3)
        clear h3
        go_wp2_with fail
        go_ret
        exact ⟨by rw [HF.out]; rfl, rfl⟩
      · by_cases h10 : k = 10
        · have HF := Lib.hid (nm_long (l := bl s) (by rw [bl_len]; omega))
          subst h10
          clear h3
          go_wp2_with fail
          go_ret
          exact ⟨by rw [HF.out]; rfl, rfl⟩
        · have e10 : ((k : Int) == 10) = false := beq_eq_false_iff_ne.2 (by omega)
          have e10' : (k == 10) = false := beq_eq_false_iff_ne.2 h10
          have HN := Lib.hid (show valN 0 ((bl s).take (k + 1)) = valN 0 ((bl s).take k) * 10 + (c.toNat - 48) by rw [List.take_add_one, HG.out]; exact val_snoc _ _)
          have hv := val_lt ((bl s).take k) 0 HA.out
          have hl : ((bl s).take k).length = k := by rw [List.length_take, bl_len]; omega
          rw [hl] at hv
          have hp : 10 ^ k ≤ 10 ^ 9 := Nat.pow_le_pow_right (by omega) (by omega)
          have HAN := Lib.hid (show ∀ c ∈ (bl s).take (k + 1), isDg c = true from fun y hy => by
            rw [List.take_add_one, HG.out] at hy
            rcases List.mem_append.1 hy with hy | hy
            · exact HA.out y hy
            · rw [show y = c by simpa using hy]; exact h3)
          have hvb : valN 0 ((bl s).take k) < 1000000000 := Nat.lt_of_lt_of_le hv (by rw [Nat.zero_add, Nat.one_mul]; exact hp)
          clear hv hp hl
          generalize valN 0 ((bl s).take k) = v at *
          obtain ⟨d, hd⟩ : ∃ d : Nat, c.toNat = 48 + d := ⟨c.toNat - 48, by omega⟩
          have HD := Lib.hid hd
          have q0 : (c.toNat : Int) - 48 = (d : Int) := by omega
          have q1 : IntKind.u8.wrap ((c.toNat : Int) - 48) = (d : Int) := by rw [q0, IntKind.wrap_u8]; omega
          have q1' : IntKind.u8.wrap (d : Int) = (d : Int) := by rw [IntKind.wrap_u8]; omega
          have q2 : wrap64 (10 * (v : Int)) = 10 * (v : Int) := by unfold wrap64; omega
          have q3 : wrap64 (10 * (v : Int) + (d : Int)) = 10 * (v : Int) + (d : Int) := by unfold wrap64; omega
          have HQ := Lib.hid (show 10 * (v : Int) + (d : Int) = ((v * 10 + (c.toNat - 48) : Nat) : Int) by omega)
          clear h3 hd
          go_wp2_with fail
          go_round
          case rel => exact ⟨k + 1, by omega, by omega, by go_num, by rw [HN.out, ← HQ.out], HAN.out⟩
          case measure => simp [intOf]; omega
    · have hks : k = s.size := by omega
      have e5 : decide ((k : Int) < (s.size : Int)) = false := decide_eq_false (by omega)
      have ht : (bl s).take k = bl s := List.take_of_length_le (by rw [bl_len]; omega)
      rw [ht] at HA ⊢
      have hv := val_lt (bl s) 0 HA.out
      rw [bl_len] at hv
      have hp : 10 ^ s.size ≤ 10 ^ 10 := Nat.pow_le_pow_right (by omega) (by omega)
      have HNu := Lib.hid (fun w => Number_any (valN 0 (bl s)) w (Nat.lt_of_lt_of_le hv (by rw [Nat.zero_add, Nat.one_mul]; exact hp)))
      clear hv hp
      by_cases h0 : s.size = 0
      · have es : (s.toList == (⟨#[]⟩ : ByteArray).toList) = true := by rw [bl_eqb, decide_eq_true]; exact bl_inj (List.eq_nil_of_length_eq_zero (by rw [bl_len]; exact h0))
        have es' : s.toList.isEmpty = true := by rw [Lib.toList_data]; have : bl s = [] := List.eq_nil_of_length_eq_zero (by rw [bl_len]; exact h0); unfold bl at this; rw [this]; rfl
        have HF := Lib.hid (show nmI (bl s) = -1 by unfold nmI; rw [if_neg]; intro hh; exact D_ne _ (hh.2.symm.trans (List.eq_nil_of_length_eq_zero (by rw [bl_len]; exact h0))))
        clear ht
        go_wp2_with fail
        go_ret
        exact ⟨by rw [HF.out]; rfl, rfl⟩
      · have hne : bl s ≠ [] := by intro e; have := congrArg List.length e; rw [bl_len] at this; exact h0 this
        have es' : s.toList.isEmpty = false := by rw [Lib.toList_data]; unfold bl at hne; cases hx : s.data.toList with | nil => exact absurd hx hne | cons a b => rfl
        by_cases hD : bl s = D (valN 0 (bl s))
        · have HF := Lib.hid (show nmI (bl s) = (valN 0 (bl s) : Int) from if_pos ⟨by rw [bl_len]; omega, hD⟩)
          have hss : sL (D (valN 0 (bl s))) = s := by rw [← hD, sL_bl]
          rw [hss] at HNu
          have ee : (s.toList == s.toList) = true := by simp
          have ee2 : (!(s.toList == s.toList)) = false := by simp
          generalize valN 0 (bl s) = v at *
          clear ht hne hD hss
          go_wp2_with fail
          refine (HNu.out _).mono ?_
          rintro e w' ⟨rfl, rfl⟩
          go_wp2_with fail
          go_ret
          exact ⟨by rw [HF.out]; rfl, rfl⟩
        · have HF := Lib.hid (show nmI (bl s) = -1 from if_neg fun h => hD h.2)
          have ee : ((sL (D (valN 0 (bl s)))).toList == s.toList) = false := by rw [bl_eqb]; exact decide_eq_false fun h => hD (by rw [← bl_sL (D (valN 0 (bl s))), h])
          generalize sL (D (valN 0 (bl s))) = t at *
          generalize valN 0 (bl s) = v at *
          clear ht hne hD
          go_wp2_with fail
          refine (HNu.out _).mono ?_
          rintro e w' ⟨rfl, rfl⟩
          go_wp2_with fail
          go_ret
          exact ⟨by rw [HF.out]; rfl, rfl⟩
/-- What line returns. -/
def lnV (s : ByteArray) : ByteArray := match lnO (bl s) with | some (f, _) => sL (f ++ [10]) | none => s
def lnB (s : ByteArray) : Bool := (lnO (bl s)).isSome
theorem ln_hit {s : ByteArray} {k : Nat} (hk : (bl s)[k]? = some 10) (hn : (10 : UInt8) ∉ (bl s).take k) : lnO (bl s) = some ((bl s).take k, (bl s).drop (k + 1)) := by
  refine lnO_some.2 ⟨?_, hn⟩
  conv => lhs; rw [← List.take_append_drop k (bl s)]
  congr 1
  obtain ⟨hl, he⟩ := List.getElem?_eq_some_iff.1 hk
  rw [List.drop_eq_getElem_cons hl, he]
set_option maxHeartbeats 2000000 in
theorem line_any (s : ByteArray) (w : World) (hsz : s.size ≤ 9000000000000000000) : Calls Tryd.prog 45 #[.string s] w fun e w' => e = .returned (.tuple #[.string (lnV s), .bool (lnB s)]) ∧ w = w' := by
  go_enter Tryd.func45, Tryd.ntmps45
  go_wp2_with fail
  go_loop [4] (fun i => ∃ k : Nat, k ≤ s.size ∧ i = .int .i64 k ∧ (10 : UInt8) ∉ (bl s).take k) (fun i => s.size - (intOf i).toNat)
  case atStart => exact ⟨0, by omega, rfl, by simp⟩
  case round =>
    obtain ⟨k, hk, rfl, hall⟩ := hrel
    have HA := Lib.hid hall
    clear hall
    by_cases hlt : k < s.size
    · have HG := Lib.hid (bl_at s k hlt)
      generalize hc : (s[k]'hlt) = c at *
      by_cases h10 : c = 10
      · subst h10
        have hh := ln_hit HG.out HA.out
        have HF := Lib.hid (show lnV s = s.extract 0 (k + 1) ∧ lnB s = true from ⟨by
          unfold lnV
          rw [hh]
          refine bl_inj ?_
          rw [bl_extract, bl_sL, List.drop_zero, Nat.sub_zero, List.take_add_one, HG.out]
          rfl, by unfold lnB; rw [hh]; rfl⟩)
        have e1 : (((10 : UInt8).toNat : Int) == 10) = true := rfl
        have b1 : (0 : Int) ≤ (k : Int) + 1 := by omega
        have b2 : (k : Int) + 1 ≤ (s.size : Int) := by omega
        have q1 : ((k : Int) + 1).toNat = k + 1 := by omega
        clear hh
        go_wp2_with fail
        go_ret2
        exact ⟨by rw [HF.out.1, HF.out.2]; rfl, rfl⟩
      · have h10' : c.toNat ≠ 10 := fun e => h10 (UInt8.toNat_inj.1 e)
        have e1 : ((c.toNat : Int) == 10) = false := beq_eq_false_iff_ne.2 (by omega)
        have e1' : (c.toNat == 10) = false := beq_eq_false_iff_ne.2 h10'
        have HN := Lib.hid (show (10 : UInt8) ∉ (bl s).take (k + 1) by
          rw [List.take_add_one, HG.out]
          intro hm
          rcases List.mem_append.1 hm with hm | hm
          · exact HA.out hm
          · exact h10 (show (10 : UInt8) = c by simpa using hm).symm)
        clear h10 h10'
        go_wp2_with fail
        go_round
        case rel => exact ⟨k + 1, by omega, by go_num, HN.out⟩
        case measure => simp [intOf]; omega
    · have e5 : decide ((k : Int) < (s.size : Int)) = false := decide_eq_false (by omega)
      have ht : (bl s).take k = bl s := List.take_of_length_le (by rw [bl_len]; omega)
      rw [ht] at HA
      have hh := lnO_none.2 HA.out
      have HF := Lib.hid (show lnV s = s ∧ lnB s = false from ⟨by unfold lnV; rw [hh], by unfold lnB; rw [hh]; rfl⟩)
      clear hh ht
      go_wp2_with fail
      go_ret2
      exact ⟨by rw [HF.out.1, HF.out.2]; rfl, rfl⟩
end Go.Proofs.YtklhjiagkkhldaaDoor

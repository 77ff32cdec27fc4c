/-
  Numerals and lines in the reference: the walks of Digit, Number, first, number, line. Conditions: sizes.
-/
import Derived.Test.YtoenecgjiejljaaDoorBt4
import Derived.Test.YtoenecgjiejljaaDoorBh1
import Derived.Test.YtoenecgjiejljaaDoorSlb
import Derived.Test.YtoenecgjiejljaaDoorDgt
namespace Go.Proofs.YtoenecgjiejljaaDoor
open Go.RowKit
set_option linter.unusedVariables false

set_option maxHeartbeats 1000000 in
theorem Number_any : ∀ (n : Nat) (w : World), n < 10000000000 → Calls Tryd.prog 136 #[.int .i64 n] w fun e w' => e = .returned (.string (sL (D n))) ∧ w = w' := by
  intro n
  induction n using Nat.strongRecOn with
  | _ n ih =>
    intro w hn
    by_cases h : n < 10
    · have HD := Lib.hid (Digit_any n h w)
      have HX := Lib.hid (show sL (D n) = dg1 n by rw [D_small h]; rfl)
      have e1 : decide ((n : Int) < 10) = true := decide_eq_true (by omega)
      have e1' : decide (n < 10) = true := decide_eq_true h
      rw [HX.out]
      clear ih h
      go_enter Tryd.func136, Tryd.ntmps136
      go_wp2_with fail
      refine (HD.out).mono ?_
      rintro e w' ⟨rfl, rfl⟩
      go_wp2_with fail
      go_ret
      exact ⟨rfl, rfl⟩
    · have HD := Lib.hid (fun w => Digit_any (n % 10) (by omega) w)
      have HC := Lib.hid (fun w => ih (n / 10) (by omega) w (by omega))
      have HX := Lib.hid (show sL (D n) = sL (D (n / 10)) ++ dg1 (n % 10) by rw [D_big h, ← sL_app]; rfl)
      have l1 := D_len 9 (n / 10) (by omega)
      have z1 : (sL (D (n / 10))).size ≤ 100 := by rw [sL_size]; omega
      have z2 : (dg1 (n % 10)).size ≤ 100 := by unfold dg1; rw [sL_size]; simp
      rw [HX.out]
      generalize sL (D (n / 10)) = a at *
      generalize dg1 (n % 10) = b at *
      have e1 : decide ((n : Int) < 10) = false := decide_eq_false (by omega)
      have e1' : decide (n < 10) = false := decide_eq_false h
      have q1 : Int.tdiv (n : Int) 10 = ((n / 10 : Nat) : Int) := by rw [Int.tdiv_eq_ediv_of_nonneg (by omega)]; rfl
      have q2 : Int.tmod (n : Int) 10 = ((n % 10 : Nat) : Int) := by rw [Int.tmod_eq_emod_of_nonneg (by omega)]; rfl
      clear ih l1
      go_enter Tryd.func136, Tryd.ntmps136
      go_wp2_with fail
      refine (HC.out _).mono ?_
      rintro e w' ⟨rfl, rfl⟩
      go_wp2_with fail
      refine (HD.out _).mono ?_
      rintro e w' ⟨rfl, rfl⟩
      go_wp2_with fail
      go_ret
      exact ⟨rfl, rfl⟩
/-- The first line of a book, with its line feed. -/
def hdL (n x : Nat) : List UInt8 := canon n x ++ [10]
theorem hd_parts (n x : Nat) : ((((⟨#[112, 97, 103, 101, 115, 32]⟩ : ByteArray) ++ sL (D n)) ++ (⟨#[32]⟩ : ByteArray)) ++ sL (D x)) ++ (⟨#[10]⟩ : ByteArray) = sL (hdL n x) := by
  have e1 : (⟨#[112, 97, 103, 101, 115, 32]⟩ : ByteArray) = sL pgW := rfl
  have e2 : (⟨#[32]⟩ : ByteArray) = sL [32] := rfl
  have e3 : (⟨#[10]⟩ : ByteArray) = sL [10] := rfl
  rw [e1, e2, e3, sL_app, sL_app, sL_app, sL_app]
  unfold hdL canon
  simp
theorem first_any (n x : Nat) (w : World) (hn : n < 10000000000) (hx : x < 10000000000) : Calls Tryd.prog 94 #[.int .i64 n, .int .i64 x] w fun e w' => e = .returned (.string (sL (hdL n x))) ∧ w = w' := by
  have H1 := Lib.hid (fun w => Number_any n w hn)
  have H2 := Lib.hid (fun w => Number_any x w hx)
  have HP := Lib.hid (hd_parts n x)
  have l1 := D_len 9 n (by omega)
  have l2 := D_len 9 x (by omega)
  have z1 : (sL (D n)).size ≤ 100 := by rw [sL_size]; omega
  have z2 : (sL (D x)).size ≤ 100 := by rw [sL_size]; omega
  generalize sL (D n) = a at *
  generalize sL (D x) = b at *
  have z3 : (⟨#[112, 97, 103, 101, 115, 32]⟩ : ByteArray).size = 6 := rfl
  have z4 : (⟨#[32]⟩ : ByteArray).size = 1 := rfl
  have z5 : (⟨#[10]⟩ : ByteArray).size = 1 := rfl
  clear l1 l2
  go_enter Tryd.func94, Tryd.ntmps94
  go_wp2_with fail
  refine (H1.out _).mono ?_
  rintro e w' ⟨rfl, rfl⟩
  go_wp2_with fail
  refine (H2.out _).mono ?_
  rintro e w' ⟨rfl, rfl⟩
  go_wp2_with fail
  go_ret
  exact ⟨by rw [← HP.out]; rfl, rfl⟩
theorem val_snoc (l : List UInt8) (c : UInt8) : valN 0 (l ++ [c]) = valN 0 l * 10 + (c.toNat - 48) := by
  unfold valN
  rw [List.foldl_append]
  rfl
theorem val_lt : ∀ (l : List UInt8) (a : Nat), (∀ c ∈ l, isDg c = true) → valN a l < (a + 1) * 10 ^ l.length
  | [], a, _ => by simp [valN]
  | c :: r, a, h => by
    have h1 := isDg_iff.1 (h c (by simp))
    have h2 := val_lt r (valG a c) (fun x hx => h x (by simp [hx]))
    have h3 : valG a c + 1 ≤ (a + 1) * 10 := by unfold valG; omega
    show valN (valG a c) r < _
    rw [List.length_cons, Nat.pow_succ, Nat.mul_comm (10 ^ r.length) 10, ← Nat.mul_assoc]
    exact Nat.lt_of_lt_of_le h2 (Nat.mul_le_mul_right _ h3)
/-- What number reads: the numeral of at most ten digits, or -1. -/
def nmI (l : List UInt8) : Int := if l.length ≤ 10 ∧ l = D (valN 0 l) then (valN 0 l : Int) else -1
theorem nm_ok {l : List UInt8} {u : Nat} (h : nmI l = (u : Int)) : l = D u := by
  unfold nmI at h
  split at h
  · rename_i h1
    have : valN 0 l = u := by omega
    rw [this] at h1
    exact h1.2
  · omega
theorem nm_D {u : Nat} (h : u < 10000000000) : nmI (D u) = (u : Int) := by
  unfold nmI
  rw [if_pos ⟨D_len 9 u (by omega), by rw [D_val]⟩, D_val]
theorem nm_ge (l : List UInt8) : -1 ≤ nmI l := by
  unfold nmI
  split <;> omega
theorem nm_lt (l : List UInt8) : nmI l < 10000000000 := by
  unfold nmI
  split
  · rename_i h
    have h1 : ∀ c ∈ l, isDg c = true := by rw [h.2]; exact D_dig _
    have h2 := val_lt l 0 h1
    have h3 : 10 ^ l.length ≤ 10 ^ 10 := Nat.pow_le_pow_right (by omega) h.1
    omega
  · omega
theorem dg_cases (c : UInt8) : (decide ((c.toNat : Int) < 48) = true ∧ decide (c.toNat < 48) = true ∧ isDg c = false) ∨ (decide ((c.toNat : Int) < 48) = false ∧ decide (c.toNat < 48) = false ∧ decide ((57 : Int) < (c.toNat : Int)) = true ∧ decide (57 < c.toNat) = true ∧ isDg c = false) ∨ (decide ((c.toNat : Int) < 48) = false ∧ decide (c.toNat < 48) = false ∧ decide ((57 : Int) < (c.toNat : Int)) = false ∧ decide (57 < c.toNat) = false ∧ isDg c = true ∧ 48 ≤ c.toNat ∧ c.toNat ≤ 57) := by
  unfold isDg
  by_cases h : c.toNat < 48
  · exact .inl ⟨decide_eq_true (by omega), decide_eq_true h, by rw [decide_eq_false (by omega)]; rfl⟩
  · by_cases h2 : 57 < c.toNat
    · exact .inr (.inl ⟨decide_eq_false (by omega), decide_eq_false h, decide_eq_true (by omega), decide_eq_true h2, by rw [decide_eq_true (by omega), decide_eq_false (by omega)]; rfl⟩)
    · exact .inr (.inr ⟨decide_eq_false (by omega), decide_eq_false h, decide_eq_false (by omega), decide_eq_false h2, by rw [decide_eq_true (by omega), decide_eq_true (by omega)]; rfl, by omega, by omega⟩)
theorem nm_bad {l : List UInt8} {k : Nat} {c : UInt8} (hk : l[k]? = some c) (hc : isDg c = false) : nmI l = -1 := by
  unfold nmI
  rw [if_neg]
  intro h
  have := D_dig _ c (h.2 ▸ List.mem_of_getElem? hk)
  rw [hc] at this
  cases this
theorem nm_long {l : List UInt8} (h : 10 < l.length) : nmI l = -1 := by
  unfold nmI
  rw [if_neg (by omega)]
/-- What line returns. -/
def lnV (s : ByteArray) : ByteArray := match lnO (bl s) with | some (f, _) => sL (f ++ [10]) | none => s
def lnB (s : ByteArray) : Bool := (lnO (bl s)).isSome
theorem ln_hit {s : ByteArray} {k : Nat} (hk : (bl s)[k]? = some 10) (hn : (10 : UInt8) ∉ (bl s).take k) : lnO (bl s) = some ((bl s).take k, (bl s).drop (k + 1)) := by
  refine lnO_some.2 ⟨?_, hn⟩
  conv => lhs; rw [← List.take_append_drop k (bl s)]
  congr 1
  obtain ⟨hl, he⟩ := List.getElem?_eq_some_iff.1 hk
  rw [List.drop_eq_getElem_cons hl, he]
end Go.Proofs.YtoenecgjiejljaaDoor

/-
  Histories: the walks of caught, ValidateHistories of the reference, days, daysOf. Condition: the list can be read.
-/
import Derived.Test.YtegehfcnclpdeaaDoorHs2
namespace Go.Proofs.YtegehfcnclpdeaaDoor
open Go.RowKit
set_option linter.unusedVariables false

theorem inB_empty {s : ByteArray} {a b : Nat} (h : b ≤ a) : inB s a b = false := by
  cases hh : inB s a b
  · rfl
  · obtain ⟨d, h1, h2, _⟩ := inB_iff.1 hh
    omega
theorem bl_get (s : ByteArray) (i : Nat) (h : i < s.size) : (bl s)[i]? = some (s[i]'h) := by
  have h' : i < (bl s).length := by rw [bl_len]; exact h
  rw [List.getElem?_eq_getElem h']
  rfl
theorem hit_get {s : ByteArray} {i : Nat} (h : i < s.size) : hitB s i = decide ((s[i]'h).toNat = 49) := by
  unfold hitB
  rw [bl_get s i h, decide_eq_decide]
  constructor
  · intro e; injection e with e; rw [e]; rfl
  · intro e; congr 1; exact UInt8.toNat_inj.1 e
set_option maxRecDepth 4000 in
set_option maxHeartbeats 1000000 in
theorem caught_any (s : ByteArray) (a b : Nat) (hb : b ≤ s.size) (hs : s.size ≤ 9223372036854775807) (ha : a ≤ 9223372036854775807) (w : World) :
    Calls Tryd.prog 20 #[.string s, .int .i64 a, .int .i64 b] w fun e w' => e = .returned (.bool (inB s a b)) ∧ w = w' := by
  by_cases hab : b ≤ a
  · have e1 : decide ((a : Int) < (b : Int)) = false := by simp; omega
    have e1' : decide (a < b) = false := by simp; omega
    have HX := Lib.hid (inB_empty (s := s) hab)
    clear hab
    go_enter Tryd.func20, Tryd.ntmps20
    go_wp2_with fail
    go_loop [7] (fun i => i = .int .i64 a) (fun _ => 0)
    case atStart => rfl
    case round =>
      subst hrel
      go_wp2_with fail
      go_ret
      exact ⟨by rw [HX.out]; rfl, rfl⟩
  · have hlt0 : a < b := by omega
    clear hab
    go_enter Tryd.func20, Tryd.ntmps20
    go_wp2_with fail
    go_loop [7] (fun i => ∃ k : Nat, a ≤ k ∧ k ≤ b ∧ i = .int .i64 k ∧ ∀ d, a ≤ d → d < k → hitB s d = false) (fun i => b - (intOf i).toNat)
    case atStart => exact ⟨a, Nat.le_refl _, by omega, rfl, fun d h1 h2 => by omega⟩
    case round =>
      obtain ⟨k, hk1, hk2, rfl, hall⟩ := hrel
      have HA := Lib.hid hall
      clear hall
      by_cases hlt : k < b
      · have hks : k < s.size := by omega
        have e1 : decide ((k : Int) < (b : Int)) = true := by simp; omega
        have e1' : decide (k < b) = true := by simp; omega
        have hh := hit_get hks
        have b0 : (0 : Int) ≤ (k : Int) := by omega
        have b1 : (k : Int) < (s.size : Int) := by omega
        cases hc : hitB s k
        · rw [hc] at hh
          have hne := of_decide_eq_false hh.symm
          have e2 : ((((s[k]'hks).toNat : Nat) : Int) == 49) = false := by simp; omega
          have e2' : ((s[k]'hks).toNat == 49) = false := by simpa using hne
          have HN := Lib.hid (fun d (h1 : a ≤ d) (h2 : d < k + 1) => show hitB s d = false by
            rcases Nat.lt_or_ge d k with h3 | h3
            · exact HA.out d h1 h3
            · have : d = k := by omega
              rw [this]; exact hc)
          clear hc hh hne
          go_wp2_with fail
          go_round
          case rel => exact ⟨k + 1, by omega, by omega, by go_num, HN.out⟩
          case measure => simp [intOf]; omega
        · rw [hc] at hh
          have hne := of_decide_eq_true hh.symm
          have e2 : ((((s[k]'hks).toNat : Nat) : Int) == 49) = true := by simp; omega
          have e2' : ((s[k]'hks).toNat == 49) = true := by simpa using hne
          have HX := Lib.hid (inB_iff.2 ⟨k, hk1, hlt, hc⟩)
          clear hc hh hne
          go_wp2_with fail
          go_ret
          exact ⟨by rw [HX.out]; rfl, rfl⟩
      · have hkb : k = b := by omega
        subst hkb
        have HX := Lib.hid (show inB s a k = false by
          cases hh : inB s a k
          · rfl
          · obtain ⟨d, h1, h2, h3⟩ := inB_iff.1 hh
            rw [HA.out d h1 h2] at h3; cases h3)
        have e1 : decide ((k : Int) < (k : Int)) = false := by simp
        go_wp2_with fail
        go_ret
        exact ⟨by rw [HX.out]; rfl, rfl⟩
theorem len0 {n : Nat} : ((n : Int) == 0) = decide (n = 0) := by
  rw [Bool.eq_iff_iff]
  simp
def dayN (C : List ByteArray) : Nat := D0 C
theorem daysOf_any (A : Option Addr) (cp : Nat) (C : List ByteArray) (hs : Sz C) (hl : C.length ≤ 9223372036854775807) (w : World) (hr : Rd w w.heap.size A (txts C)) :
    Calls Tryd.prog 12 #[.slice A C.length cp] w fun e w' => e = .returned (.int .i64 (D0 C : Nat)) ∧ w = w' := by
  cases C with
  | nil =>
    go_enter Tryd.func12, Tryd.ntmps12
    go_wp2_with fail
    go_ret
    exact ⟨rfl, rfl⟩
  | cons s r =>
    obtain ⟨b, o, z, rfl, _, hz, c1⟩ := hr.txt 0 (by simp)
    have hD := D0_at hz.out
    have HD := Lib.hid hD
    have c1' : w.cell? ⟨b, o, none⟩ = some (.string z) := c1
    obtain ⟨n, hn⟩ : ∃ n, (s :: r).length = n := ⟨_, rfl⟩
    have hnp : 0 < n := by rw [← hn]; simp
    rw [hn]
    have e1 : ((n : Int) == 0) = false := by simp; omega
    have e1' : (n == 0) = false := by simp; omega
    have b0 : (0 : Int) < (n : Int) := by omega
    have hzz := hs z (List.mem_of_getElem? hz.out)
    clear hr hz c1 hD hn hs
    go_enter Tryd.func12, Tryd.ntmps12
    go_wp2_with fail
    go_ret
    exact ⟨by rw [HD.out]; rfl, rfl⟩
theorem days_any (A : Option Addr) (cp : Nat) (C : List ByteArray) (hs : Sz C) (hl : C.length ≤ 9223372036854775807) (w : World) (hr : Rd w w.heap.size A (txts C)) :
    Calls Tryd.prog 19 #[.slice A C.length cp] w fun e w' => e = .returned (.int .i64 (D0 C : Nat)) ∧ w = w' := by
  cases C with
  | nil =>
    go_enter Tryd.func19, Tryd.ntmps19
    go_wp2_with fail
    go_ret
    exact ⟨rfl, rfl⟩
  | cons s r =>
    obtain ⟨b, o, z, rfl, _, hz, c1⟩ := hr.txt 0 (by simp)
    have hD := D0_at hz.out
    have HD := Lib.hid hD
    have c1' : w.cell? ⟨b, o, none⟩ = some (.string z) := c1
    obtain ⟨n, hn⟩ : ∃ n, (s :: r).length = n := ⟨_, rfl⟩
    have hnp : 0 < n := by rw [← hn]; simp
    rw [hn]
    have e1 : ((n : Int) == 0) = false := by simp; omega
    have e1' : (n == 0) = false := by simp; omega
    have b0 : (0 : Int) < (n : Int) := by omega
    have hzz := hs z (List.mem_of_getElem? hz.out)
    clear hr hz c1 hD hn hs
    go_enter Tryd.func19, Tryd.ntmps19
    go_wp2_with fail
    go_ret
    exact ⟨by rw [HD.out]; rfl, rfl⟩
end Go.Proofs.YtegehfcnclpdeaaDoor

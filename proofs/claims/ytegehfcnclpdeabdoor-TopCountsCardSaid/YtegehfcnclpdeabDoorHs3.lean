/-
  Histories: the walks of caught, ValidateHistories of the reference, days, daysOf. Condition: the list can be read.
-/
import Derived.Test.YtegehfcnclpdeabDoorHs2
namespace Go.Proofs.YtegehfcnclpdeabDoor
open Go.RowKit
set_option linter.unusedVariables false

theorem inB_empty {s : ByteArray} {a b : Nat} (h : b ≤ a) : inB s a b = false := by
  cases hh : inB s a b
  · rfl
  · obtain ⟨d, h1, h2, _⟩ := inB_iff.1 hh
    omega
theorem bl_get (s : ByteArray) (i : Nat) (h : i < s.size) : (bl s)[i]? = some (s[i]'h) := by
  have h' : i < (bl s).length := by rw [bl_len]; exact h
  rw [List.getElem?_eq_getElem h']
  rfl
theorem hit_get {s : ByteArray} {i : Nat} (h : i < s.size) : hitB s i = decide ((s[i]'h).toNat = 49) := by
  unfold hitB
  rw [bl_get s i h, decide_eq_decide]
  constructor
  · intro e; injection e with e; rw [e]; rfl
  · intro e; congr 1; exact UInt8.toNat_inj.1 e
theorem len0 {n : Nat} : ((n : Int) == 0) = decide (n = 0) := by
  rw [Bool.eq_iff_iff]
  simp
def dayN (C : List ByteArray) : Nat := D0 C
theorem daysOf_any (A : Option Addr) (cp : Nat) (C : List ByteArray) (hs : Sz C) (hl : C.length ≤ 9223372036854775807) (w : World) (hr : Rd w w.heap.size A (txts C)) :
    Calls Tryd.prog 23 #[.slice A C.length cp] w fun e w' => e = .returned (.int .i64 (D0 C : Nat)) ∧ w = w' := by
  cases C with
  | nil =>
    go_enter Tryd.func23, Tryd.ntmps23
    go_wp2_with fail
    go_ret
    exact ⟨rfl, rfl⟩
  | cons s r =>
    obtain ⟨b, o, z, rfl, _, hz, c1⟩ := hr.txt 0 (by simp)
    have hD := D0_at hz.out
    have HD := Lib.hid hD
    have c1' : w.cell? ⟨b, o, none⟩ = some (.string z) := c1
    obtain ⟨n, hn⟩ : ∃ n, (s :: r).length = n := ⟨_, rfl⟩
    have hnp : 0 < n := by rw [← hn]; simp
    rw [hn]
    have e1 : ((n : Int) == 0) = false := by simp; omega
    have e1' : (n == 0) = false := by simp; omega
    have b0 : (0 : Int) < (n : Int) := by omega
    have hzz := hs z (List.mem_of_getElem? hz.out)
    clear hr hz c1 hD hn hs
    go_enter Tryd.func23, Tryd.ntmps23
    go_wp2_with fail
    go_ret
    exact ⟨by rw [HD.out]; rfl, rfl⟩
end Go.Proofs.YtegehfcnclpdeabDoor

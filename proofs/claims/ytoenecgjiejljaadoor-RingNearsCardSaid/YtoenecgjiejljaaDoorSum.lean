/-
  The walks of ring.sum, validateDigits, Sum and of the reference's sum, digits, Sum over every slice of ints. Conditions: 'TabsR' where package ring reads its tables.
-/
import Derived.Test.YtoenecgjiejljaaDoorDg2
import Derived.Test.YtoenecgjiejljaaDoorMem
namespace Go.Proofs.YtoenecgjiejljaaDoor
open Go.RowKit
set_option linter.unusedVariables false

theorem TabsR.drewN {w : World} (h : TabsR w) (n : Nat) : TabsR (w.drewN n) := ⟨h.prod, h.turn, h.size⟩

theorem drop_step {l : List Int} {k : Nat} {d : Int} (hk : k < l.length) (hd : l[l.length - 1 - k]? = some d) : sumL (l.drop (l.length - (k + 1))) = mulD (sumL (l.drop (l.length - k))) (turnN k d) := by
  have h1 : l.length - (k + 1) < l.length := by omega
  have hd' : l[l.length - (k + 1)] = d := by
    have e : l.length - 1 - k = l.length - (k + 1) := by omega
    rw [e, List.getElem?_eq_getElem h1] at hd
    exact Option.some.inj hd
  rw [List.drop_eq_getElem_cons h1, hd', show l.length - (k + 1) + 1 = l.length - k by omega]
  simp only [sumL, List.length_drop]
  rw [show l.length - (l.length - k) = k by omega]
theorem dig_at {l : List Int} {k : Nat} {d : Int} (hl : ∀ x ∈ l, Dig x) (hd : l[k]? = some d) : Dig d := hl d (List.mem_of_getElem? hd)
theorem dig_drop {l : List Int} (hl : ∀ x ∈ l, Dig x) (k : Nat) : Dig (sumL (l.drop k)) := dig_sum fun x hx => hl x (List.mem_of_mem_drop hx)
theorem turn_nat (x T : Int) (k : Nat) (w : World) (hx : Dig x) (h1 : k ≤ 1000) (ht : TabsR w) (hT : turnN k x = T) :
    Calls Tryd.prog 107 #[.int .i64 x, .int .i64 k] w fun e w' => e = .returned (.int .i64 T) ∧ w = w' := by
  subst hT
  have := turn_ok x k w hx (by omega) (by omega) ht
  simpa using this

theorem sum_ok (A : Option Addr) (c : Nat) (l : List Int) (w : World) (hr : Rd w w.heap.size A (ints l)) (hl : ∀ x ∈ l, Dig x) (hn : l.length ≤ 1000) (ht : TabsR w) :
    Calls Tryd.prog 55 #[.slice A l.length c] w fun e w' => e = .returned (.int .i64 (sumL l)) ∧ ∃ n, w' = w.drewN n := by
  have HT := Lib.hid ht
  have HR := Lib.hid hr
  have HL := Lib.hid hl
  clear ht hr hl
  go_enter Tryd.func55, Tryd.ntmps55
  go_wp2
  go_loopw [3, 8] (fun t i wr => ∃ k : Nat, k ≤ l.length ∧ i = .int .i64 k ∧ t = .int .i64 (sumL (l.drop (l.length - k))) ∧ ∃ m, wr = w.drewN m) (fun _ i _ => l.length - (intOf i).toNat)
  case atStart => exact ⟨0, by omega, rfl, by simp [sumL], 0, rfl⟩
  case round =>
    obtain ⟨k, hk, rfl, rfl, m, rfl⟩ := hrel
    by_cases hlt : k < l.length
    · obtain ⟨b, o, d, rfl, hd, hc⟩ := HR.out.int (l.length - 1 - k) (by omega)
      have HS := Lib.hid (drop_step hlt hd)
      have hS := dig_drop HL.out (l.length - k)
      have hdd := dig_at HL.out hd
      have Hd := Lib.hid hdd
      have hT := dig_turn hdd k
      generalize hs : sumL (l.drop (l.length - k)) = S at *
      generalize ht : turnN k d = T at *
      have H1 := Lib.hid ht
      have H2 := Lib.hid hs
      clear ht hs
      have hp := HT.out.prod S T hS.1 hS.2 hT.1 hT.2
      obtain ⟨s0, s9⟩ := hS
      obtain ⟨t0, t9⟩ := hT
      clear hdd
      go_wp2_with fail
      go_quiet ((go_at_call 107; exact qs (turn_nat d T k _ Hd.out (by omega) (HT.out.drewN _) H1.out)))
      go_wp2
      go_roundw
      case rel => exact ⟨k + 1, by omega, by go_num, by rw [HS.out], _, rfl⟩
      case measure => simp [intOf]; omega
    · have hk' : k = l.length := by omega
      have HK := Lib.hid hk'
      clear hk'
      go_wp2
      go_ret
      exact ⟨by rw [HK.out]; simp, _, rfl⟩
def allDig (l : List Int) : Bool := l.all isDig
theorem allDig_iff {l : List Int} : allDig l = true ↔ ∀ x ∈ l, Dig x := by simp [allDig, isDig_iff]
def digE (l : List Int) (most : Int) : Int := if most < (l.length : Int) then 3 else if allDig l then 0 else 1
theorem digE_large {l : List Int} {most : Int} (h : most < (l.length : Int)) : digE l most = 3 := if_pos h
theorem digE_ok {l : List Int} {most : Int} (h : ¬ most < (l.length : Int)) (ha : allDig l = true) : digE l most = 0 := by rw [digE, if_neg h, if_pos ha]
theorem digE_bad {l : List Int} {most : Int} (h : ¬ most < (l.length : Int)) (ha : allDig l = false) : digE l most = 1 := by rw [digE, if_neg h, if_neg (by simp [ha])]
theorem allDig_take {l : List Int} {k : Nat} {d : Int} (h : allDig (l.take k) = true) (hd : l[k]? = some d) (hdd : isDig d = true) : allDig (l.take (k + 1)) = true := by
  have hlt : k < l.length := (List.getElem?_eq_some_iff.1 hd).1
  rw [List.take_succ_eq_append_getElem hlt]
  rw [List.getElem?_eq_getElem hlt] at hd
  rw [Option.some.inj hd]
  unfold allDig at *
  rw [List.all_append, h]
  simp [hdd]
theorem allDig_not {l : List Int} {k : Nat} {d : Int} (hd : l[k]? = some d) (hdd : isDig d = false) : allDig l = false := by
  simp only [allDig, List.all_eq_false]
  exact ⟨d, List.mem_of_getElem? hd, by simp [hdd]⟩
theorem validate_any (A : Option Addr) (c : Nat) (l : List Int) (most : Int) (w : World) (hr : Rd w w.heap.size A (ints l)) (hn : l.length ≤ 1000) :
    Calls Tryd.prog 85 #[.slice A l.length c, .int .i64 most] w fun e w' => e = .returned (.int .i64 (digE l most)) ∧ w = w' := by
  have HR := Lib.hid hr
  clear hr
  by_cases hm : most < (l.length : Int)
  · rw [digE_large hm]
    go_enter Tryd.func85, Tryd.ntmps85
    go_wp2
    go_ret
    exact ⟨rfl, rfl⟩
  · go_enter Tryd.func85, Tryd.ntmps85
    go_wp2
    go_loop [13] (fun i => ∃ k : Nat, k ≤ l.length ∧ i = .int .i64 k ∧ allDig (l.take k) = true) (fun i => l.length - (intOf i).toNat)
    case atStart => exact ⟨0, by omega, rfl, by simp [allDig]⟩
    case round =>
      obtain ⟨k, hk, rfl, hall⟩ := hrel
      have HA := Lib.hid hall
      clear hall
      by_cases hlt : k < l.length
      · obtain ⟨b, o, d, rfl, hd, hc⟩ := HR.out.int k hlt
        by_cases hdd : isDig d = true
        · have Hd := Lib.hid hdd
          clear hdd
          go_wp2_with (go_at_call 104; refine (isDigit_yes d w (isDig_iff.1 Hd.out)).mono ?_; rintro e w' ⟨rfl, rfl⟩)
          go_round
          case rel => exact ⟨k + 1, by omega, by go_num, allDig_take HA.out hd.out Hd.out⟩
          case measure => simp [intOf]; omega
        · have Hd := Lib.hid (by simpa using hdd : isDig d = false)
          clear hdd
          go_wp2_with (go_at_call 104; refine (isDigit_no d w Hd.out).mono ?_; rintro e w' ⟨rfl, rfl⟩)
          go_ret
          exact ⟨by rw [digE_bad (by omega) (allDig_not hd.out Hd.out)]; rfl, rfl⟩
      · have hk' : k = l.length := by omega
        have HK := Lib.hid hk'
        clear hk'
        go_wp2
        go_ret
        exact ⟨by rw [digE_ok (by omega) (by have := HA.out; rwa [HK.out, List.take_length] at this)]; rfl, rfl⟩
def sumV (l : List Int) : Int := if digE l 12 = 0 then sumL l else 0
theorem digE_zero {l : List Int} {most : Int} (h : digE l most = 0) : (l.length : Int) ≤ most ∧ ∀ x ∈ l, Dig x := by
  unfold digE at h
  split at h
  · cases h
  · split at h
    · exact ⟨by omega, allDig_iff.1 ‹_›⟩
    · cases h
end Go.Proofs.YtoenecgjiejljaaDoor

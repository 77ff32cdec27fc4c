/-
  Whether a code is safe: the walk of IsSafe; that of SameTexts. Condition: what they read can be read.
-/
import Derived.Test.YtjongjndoaojnaaLv3
import Derived.Deep.QuietTactic
namespace Go.Proofs.Ytjongjndoaojnaa
open Go.RowKit
set_option linter.unusedVariables false

noncomputable def sfB (C : List ByteArray) : Bool := if vE C = 0 then safeC C else false
theorem Try.fieldMet (w : World) (A0 A1 A2 : Option Addr) (n0 n1 n2 c0 c1 c2 : Nat) (m : Bool) : (Instr.field 70 (.agg #[.slice A0 n0 c0, .slice A1 n1 c1, .slice A2 n2 c2, .bool m]) 3).run Try.prog w = .ok (.bool m) w := by kernel_rfl
theorem Try.fieldEnds (w : World) (A0 A1 A2 : Option Addr) (n0 n1 n2 c0 c1 c2 : Nat) (m : Bool) : (Instr.field 70 (.agg #[.slice A0 n0 c0, .slice A1 n1 c1, .slice A2 n2 c2, .bool m]) 0).run Try.prog w = .ok (.slice A0 n0 c0) w := by kernel_rfl
set_option maxRecDepth 8000 in
theorem IsSafe_any (A : Option Addr) (c : Nat) (C : List ByteArray) (w : World) (hr : Rd w w.heap.size A (txts C)) (hs : Sz C) (hl : C.length ≤ c) (hc : c ≤ 9223372036854775807) :
    Calls Try.prog 27 #[.slice A C.length c] w fun e w' => e = .returned (.tuple #[.bool (sfB C), .int .i64 (vE C)]) ∧ Below w.heap.size w w' := by
  have HVA := Lib.hid (Validate_any A c C w hr hs hl hc)
  have HR := Lib.hid hr
  clear hr hs
  by_cases hv : vE C = 0
  · have HV := Lib.hid (vE_ok hv)
    have HE := Lib.hid (show sfB C = safeC C from if_pos hv)
    rw [hv] at HVA
    rw [hv]
    clear hv
    go_enter Try.func27, Try.ntmps27
    go_wp2_with fail
    refine HVA.out.mono ?_
    rintro e w1 ⟨rfl, hb⟩
    have HL := Lib.hid (leave_any C A c w1 HV.out ((HR.out.below hb (Nat.le_refl _)).more hb.size))
    have B1 := Lib.hid hb
    clear hb
    go_wp2_with fail
    refine HL.out.mono ?_
    rintro e w2 ⟨⟨L, m, AE, cE, A1, n1, c1, A2, n2, c2, lb, mb, o, rfl, h1, h2, h3, h4, h5⟩, hb2⟩
    have B2 := Lib.hid (B1.out.trans (hb2.mono B1.out.size))
    have HS := Lib.hid (HE.out.trans h2)
    clear h1 h2 h3 h4 h5 hb2
    have hfm := Try.fieldMet w2
    go_wp2_with fail
    go_ret2
    exact ⟨by rw [HS.out]; rfl, B2.out⟩
  · have e1 : (vE C != 0) = true := by simpa using hv
    have HE := Lib.hid (show sfB C = false from if_neg hv)
    clear hv
    go_enter Try.func27, Try.ntmps27
    go_wp2_with fail
    refine HVA.out.mono ?_
    rintro e w1 ⟨rfl, hb⟩
    have B1 := Lib.hid hb
    clear hb
    go_wp2_with fail
    go_ret2
    exact ⟨by rw [HE.out]; rfl, B1.out⟩
/-- Are two lists of texts equal? -/
def eqT (a b : List ByteArray) : Bool := decide (a = b)
theorem eqT_next {a b : List ByteArray} {k : Nat} {x y : ByteArray} (hx : a[k]? = some x) (hy : b[k]? = some y) (h : a.take k = b.take k) (he : x = y) : a.take (k + 1) = b.take (k + 1) := by
  rw [List.take_add_one, List.take_add_one, hx, hy, h, he]
theorem eqT_bad {a b : List ByteArray} {k : Nat} {x y : ByteArray} (hx : a[k]? = some x) (hy : b[k]? = some y) (he : ¬ x = y) : eqT a b = false := decide_eq_false fun h => he (by
  rw [h, hy] at hx
  injection hx with hx
  exact hx.symm)
set_option maxRecDepth 4000 in
set_option maxHeartbeats 1000000 in
theorem SameTexts_any (A A' : Option Addr) (c c' : Nat) (a b : List ByteArray) (w : World) (hr : Rd w w.heap.size A (txts a)) (hr' : Rd w w.heap.size A' (txts b)) (hl : a.length ≤ 9223372036854775807) (hl' : b.length ≤ 9223372036854775807) :
    Calls Try.prog 30 #[.slice A a.length c, .slice A' b.length c'] w fun e w' => e = .returned (.bool (eqT a b)) ∧ ∃ m, w' = w.drewN m := by
  have HR := Lib.hid hr
  have HR' := Lib.hid hr'
  clear hr hr'
  by_cases hab : a.length = b.length
  · have e1 : (((a.length : Nat) : Int) != ((b.length : Nat) : Int)) = false := by rw [hab]; simp
    have e2 : ((a.length : Nat) != b.length) = false := by rw [hab]; simp
    have HAB := Lib.hid hab
    clear hab
    go_enter Try.func30, Try.ntmps30
    go_wp2_with fail
    go_loopw [5] (fun i wr => ∃ k : Nat, k ≤ a.length ∧ i = .int .i64 k ∧ a.take k = b.take k ∧ ∃ m, wr = w.drewN m) (fun i _ => a.length - (intOf i).toNat)
    case atStart => exact ⟨0, by omega, rfl, rfl, 0, rfl⟩
    case round =>
      obtain ⟨k, hk, rfl, hall, m, rfl⟩ := hrel
      have HA := Lib.hid hall
      clear hall
      by_cases hlt : k < a.length
      · have hlt' : k < b.length := by have := HAB.out; omega
        obtain ⟨b1, o1, x, rfl, hx, hc⟩ := HR.out.txt k hlt
        obtain ⟨b2, o2, y, rfl, hy, hc'⟩ := HR'.out.txt k hlt'
        have b0 : (0 : Int) ≤ (k : Int) := by omega
        have b1' : (k : Int) < (a.length : Int) := by omega
        have b2' : (k : Int) < (b.length : Int) := by omega
        by_cases he : x = y
        · have HX := Lib.hid (eqT_next hx.out hy.out HA.out he)
          have e3 : (x.toList == y.toList) = true := by rw [bl_eqb]; exact decide_eq_true he
          have e4 : (x.toList != y.toList) = false := by rw [bne, e3]; rfl
          clear he
          go_wp2_with fail
          go_quiet (fail)
          go_wp2_with fail
          go_roundw
          case rel => exact ⟨k + 1, by omega, by go_num, HX.out, _, rfl⟩
          case measure => simp [intOf]; omega
        · have HX := Lib.hid (eqT_bad hx.out hy.out he)
          have e3 : (x.toList == y.toList) = false := by rw [bl_eqb]; exact decide_eq_false he
          have e4 : (x.toList != y.toList) = true := by rw [bne, e3]; rfl
          clear he
          go_wp2_with fail
          go_quiet (fail)
          go_wp2_with fail
          go_ret
          exact ⟨by rw [HX.out]; rfl, _, World.drewN_drewN _ _ _⟩
      · have hks : k = a.length := by omega
        have HX := Lib.hid (show eqT a b = true by
          have h := HA.out
          rw [hks, List.take_length, HAB.out, List.take_length] at h
          exact decide_eq_true h)
        subst hks
        go_wp2_with fail
        go_ret
        exact ⟨by rw [HX.out]; rfl, _, rfl⟩
  · have e1 : (((a.length : Nat) : Int) != ((b.length : Nat) : Int)) = true := by simp; omega
    have e2 : ((a.length : Nat) != b.length) = true := by simpa using hab
    have HX := Lib.hid (show eqT a b = false from decide_eq_false fun h => hab (by rw [h]))
    clear hab
    go_enter Try.func30, Try.ntmps30
    go_wp2_with fail
    go_ret
    exact ⟨by rw [HX.out]; rfl, 0, rfl⟩
end Go.Proofs.Ytjongjndoaojnaa

/-
  The walks of the reference's CheckDigit and of 'known', the document's examples. Conditions: 'Tabs'.
-/
import Derived.Test.YtojieiplomojnaaDoorRck
namespace Go.Proofs.YtojieiplomojnaaDoor
open Go.RowKit
set_option linter.unusedVariables false

theorem rCheckDigit_any (A : Option Addr) (c : Nat) (l : List Int) (w : World) (hr : Rd w w.heap.size A (ints l)) (hn : l.length ≤ 900) :
    Calls Tryd.prog 25 #[.slice A l.length c] w fun e w' => e = .returned (.tuple #[.int .i64 (chkV l), .int .i64 (digE l 11)]) ∧ Below w.heap.size w w' := by
  have HR := Lib.hid hr
  clear hr
  unfold chkV
  by_cases h : digE l 11 = 0
  · rw [if_pos h]
    have h0 := digE_zero h
    have HL := Lib.hid h0.2
    have HV := Lib.hid (rdigits_any A c l 11 w HR.out (by omega))
    rw [h] at HV ⊢
    clear h0 h
    go_enter Tryd.func25, Tryd.ntmps25
    go_wp2_with fail
    refine HV.out.mono ?_
    rintro e w' ⟨rfl, rfl⟩
    go_wp2_with fail
    refine (rcheck_ok A c l w HR.out HL.out hn).mono ?_
    rintro e w' ⟨rfl, hb⟩
    go_wp2_with fail
    go_ret2
    exact ⟨rfl, hb⟩
  · rw [if_neg h]
    have HV := Lib.hid (rdigits_any A c l 11 w HR.out (by omega))
    generalize digE l 11 = E at *
    have hE : (E == 0) = false := by simpa using h
    have hE' : (E != 0) = true := by simpa using h
    clear h
    go_enter Tryd.func25, Tryd.ntmps25
    go_wp2_with fail
    refine HV.out.mono ?_
    rintro e w' ⟨rfl, rfl⟩
    go_wp2_with fail
    go_ret2
    exact ⟨rfl, Below.refl _ _⟩

theorem Times_51 (w : World) (ht : Tabs w) : Calls Tryd.prog 15 #[.int .i64 5, .int .i64 1] w fun e w' => e = .returned (.tuple #[.int .i64 9, .int .i64 0]) ∧ w = w' :=
  Times_ok 5 1 w ⟨by decide, by decide⟩ ⟨by decide, by decide⟩ ht
theorem Times_15 (w : World) (ht : Tabs w) : Calls Tryd.prog 15 #[.int .i64 1, .int .i64 5] w fun e w' => e = .returned (.tuple #[.int .i64 6, .int .i64 0]) ∧ w = w' :=
  Times_ok 1 5 w ⟨by decide, by decide⟩ ⟨by decide, by decide⟩ ht
theorem Rd.lit (w : World) (cs : List Value) (e : TypeId) : Rd (w.alloc (.cells cs.toArray e)) (w.alloc (.cells cs.toArray e)).heap.size (some ⟨w.heap.size, 0, none⟩) cs :=
  Rd.of_block (heap_alloc_new w _)
theorem Check_236 (w : World) (ht : Tabs w) : Calls Tryd.prog 24 #[.slice (some ⟨w.heap.size, 0, none⟩) 3 3] (w.alloc (.cells #[.int .i64 2, .int .i64 3, .int .i64 6] 3)) fun e w' => e = .returned (.tuple #[.int .i64 3, .int .i64 0]) ∧ Below w.heap.size w w' := by
  have hb : Below w.heap.size w (w.alloc (.cells #[.int .i64 2, .int .i64 3, .int .i64 6] 3)) := (Below.refl _ _).alloc (Nat.le_refl _) _
  refine (CheckDigit_any _ 3 [2, 3, 6] _ (Rd.lit w (ints [2, 3, 6]) 3) (by decide) (ht.below' hb)).mono ?_
  rintro e w' ⟨rfl, hb'⟩
  have e1 : chkV [2, 3, 6] = 3 := by decide +kernel
  have e2 : digE [2, 3, 6] 11 = 0 := by decide +kernel
  exact ⟨by rw [e1, e2], hb.trans (hb'.mono (by simp))⟩
theorem known_ok (w : World) (ht : Tabs w) : Calls Tryd.prog 21 #[] w fun e w' => e = .returned (.bool true) ∧ Below w.heap.size w w' := by
  have HT := Lib.hid ht
  clear ht
  go_enter Tryd.func21, Tryd.ntmps21
  go_wp2_with fail
  refine (Times_51 w HT.out).mono ?_
  rintro e w' ⟨rfl, rfl⟩
  go_wp2_with fail
  refine (Times_15 w HT.out).mono ?_
  rintro e w' ⟨rfl, rfl⟩
  go_wp2_with fail
  refine (Check_236 w HT.out).mono ?_
  rintro e w' ⟨rfl, hb⟩
  go_wp2_with fail
  go_ret
  exact ⟨rfl, hb⟩
end Go.Proofs.YtojieiplomojnaaDoor

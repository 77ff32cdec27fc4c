/-
  The walk of the law RingFits: it returns true. Condition: 'Tabs'.
-/
import Derived.Test.YtojieiplomojnaaDoorFit
import Derived.Test.YtojieiplomojnaaDoorKno
namespace Go.Proofs.YtojieiplomojnaaDoor
open Go.RowKit
set_option linter.unusedVariables false

theorem long_any (s : ByteArray) (w : World) (hsz : s.size ≤ 9223372036854775807) :
    Calls Tryd.prog 26 #[.string s] w fun e w' => e = .returned (.bool (decide (200 < (s.size : Int)))) ∧ w = w' := by
  go_enter Tryd.func26, Tryd.ntmps26
  go_wp2
  go_ret
  exact ⟨rfl, rfl⟩
theorem long_is (s : ByteArray) (b : Bool) (w : World) (hsz : s.size ≤ 9223372036854775807) (h : decide (200 < s.size) = b) :
    Calls Tryd.prog 26 #[.string s] w fun e w' => e = .returned (.bool b) ∧ w = w' := by
  subst h
  have e : decide (200 < s.size) = decide (200 < (s.size : Int)) := by
    by_cases h : 200 < s.size
    · rw [decide_eq_true h, decide_eq_true (by omega)]
    · rw [decide_eq_false h, decide_eq_false (by omega)]
  rw [e]
  exact long_any s w hsz
set_option maxHeartbeats 400000 in
theorem RingFits_walk (a b : ByteArray) (w : World) (ht : Tabs w) (ha : a.size ≤ 9223372036854775807) (hb : b.size ≤ 9223372036854775807) :
    Calls Tryd.prog 10 #[.string a, .string b] w fun e w' => e = .returned (.bool true) ∧ Below w.heap.size w w' := by
  have HT := Lib.hid ht
  clear ht
  cases hla : decide (200 < a.size)
  · cases hlb : decide (200 < b.size)
    · have C1 := Lib.hid (fun w => long_is a _ w ha hla)
      have C2 := Lib.hid (fun w => long_is b _ w hb hlb)
      have ha' : a.size ≤ 1000 := by simp at hla; omega
      have hb' : b.size ≤ 1000 := by simp at hlb; omega
      have F1 := Lib.hid (fun w => Fits_any a b w ha' hb')
      have F2 := Lib.hid (fun w => rFits_any a b w ha' hb')
      have G1 := Lib.hid (fun w => IsWorn_any a w ha')
      have G2 := Lib.hid (fun w => rIsWorn_any a w ha')
      clear hla hlb ha' hb'
      generalize fitsV a b = v at *
      generalize fitsE a b = E at *
      generalize formB a true = f at *
      go_enter Tryd.func10, Tryd.ntmps10
      go_wp2_with fail
      refine (C1.out w).mono ?_
      rintro e w' ⟨rfl, rfl⟩
      go_wp2_with fail
      refine (C2.out w).mono ?_
      rintro e w' ⟨rfl, rfl⟩
      go_wp2_with fail
      refine (F1.out w HT.out).mono ?_
      rintro e w1 ⟨rfl, hbl⟩
      have B1 := Lib.hid hbl
      clear hbl
      go_wp2_with fail
      refine (F2.out w1).mono ?_
      rintro e w2 ⟨rfl, hbl⟩
      have B2 := Lib.hid (B1.out.trans (hbl.mono B1.out.size))
      clear hbl
      go_wp2_with fail
      refine (G1.out w2).mono ?_
      rintro e w3 ⟨rfl, hbl⟩
      have B3 := Lib.hid (B2.out.trans (hbl.mono B2.out.size))
      clear hbl
      go_wp2_with fail
      refine (G2.out w3).mono ?_
      rintro e w' ⟨rfl, rfl⟩
      go_wp2_with fail
      refine (known_ok w3 (HT.out.below' B3.out)).mono ?_
      rintro e w4 ⟨rfl, hbl⟩
      go_wp2_with fail
      go_ret
      exact ⟨rfl, B3.out.trans (hbl.mono B3.out.size)⟩
    · have C1 := Lib.hid (fun w => long_is a _ w ha hla)
      have C2 := Lib.hid (fun w => long_is b _ w hb hlb)
      clear hla hlb
      go_enter Tryd.func10, Tryd.ntmps10
      go_wp2_with fail
      refine (C1.out w).mono ?_
      rintro e w' ⟨rfl, rfl⟩
      go_wp2_with fail
      refine (C2.out w).mono ?_
      rintro e w' ⟨rfl, rfl⟩
      go_wp2_with fail
      refine (known_ok w HT.out).mono ?_
      rintro e w4 ⟨rfl, hbl⟩
      go_wp2_with fail
      go_ret
      exact ⟨rfl, hbl⟩
  · have C1 := Lib.hid (fun w => long_is a _ w ha hla)
    clear hla
    go_enter Tryd.func10, Tryd.ntmps10
    go_wp2_with fail
    refine (C1.out w).mono ?_
    rintro e w' ⟨rfl, rfl⟩
    go_wp2_with fail
    refine (known_ok w HT.out).mono ?_
    rintro e w4 ⟨rfl, hbl⟩
    go_wp2_with fail
    go_ret
    exact ⟨rfl, hbl⟩
end Go.Proofs.YtojieiplomojnaaDoor

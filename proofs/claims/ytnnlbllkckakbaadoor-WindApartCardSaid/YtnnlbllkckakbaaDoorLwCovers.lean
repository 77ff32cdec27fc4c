/-
  The walk of the law WindCovers: it returns true. Conditions: 'Tabs', and that the slices can be read.
-/
import Derived.Test.YtnnlbllkckakbaaDoorWi12
import Derived.Test.YtnnlbllkckakbaaDoorLwPipes
namespace Go.Proofs.YtnnlbllkckakbaaDoor
open Go.RowKit
set_option linter.unusedVariables false

set_option maxHeartbeats 800000 in
theorem WindCovers_walk (A1 A2 : Option Addr) (c1 c2 : Nat) (l : List Pt) (L : List Int) (w : World) (hr1 : Rd w w.heap.size A1 (l.flatMap Pt.cells)) (hr2 : Rd w w.heap.size A2 (ints L)) (ht : Tabs w) (hm1 : l.length ≤ c1) (hcm1 : c1 ≤ maxLen) (hm2 : L.length ≤ c2) (hcm2 : c2 ≤ maxLen) :
    Calls Tryd.prog 9 #[.slice A1 l.length c1, .slice A2 L.length c2] w fun e w' => e = .returned (.bool true) ∧ Below w.heap.size w w' := by
  have HT := Lib.hid ht
  have R1 := Lib.hid hr1
  have R2 := Lib.hid hr2
  clear ht hr1 hr2
  unfold maxLen at hcm1 hcm2
  have hn1 : l.length ≤ 9223372036854775807 := by omega
  have hn2 : L.length ≤ 9223372036854775807 := by omega
  cases hlong : decide (60 < l.length)
  · have HM := Lib.hid (fun w => Many_any A1 c1 l.length false w hn1 hlong)
    clear hlong
    by_cases h2 : (60 : Int) < (L.length : Int)
    · have e2 : decide ((60 : Int) < (L.length : Int)) = true := by simp; omega
      clear h2
      go_enter Tryd.func9, Tryd.ntmps9
      go_wp2_with fail
      refine (HM.out w).mono ?_
      rintro e w' ⟨rfl, rfl⟩
      go_wp2_with fail
      refine (known_ok w HT.out).mono ?_
      rintro e w1 ⟨rfl, hb⟩
      have B1 := Lib.hid hb
      clear hb
      go_wp2_with fail
      go_ret
      exact ⟨rfl, B1.out⟩
    · have e2 : decide ((60 : Int) < (L.length : Int)) = false := by simp; omega
      clear h2
      have C1 := Lib.hid (fun w h g => Covers_any A1 A2 c1 c2 l L w h g hn1 hn2)
      have C2 := Lib.hid (fun w h g => rCovers_any A1 A2 c1 c2 l L w h g hn1 hn2)
      generalize covV l L = V at *
      generalize covE l L = E at *
      go_enter Tryd.func9, Tryd.ntmps9
      go_wp2_with fail
      refine (HM.out w).mono ?_
      rintro e w' ⟨rfl, rfl⟩
      go_wp2_with fail
      refine (C1.out w R1.out R2.out).mono ?_
      rintro e w1 ⟨rfl, hb⟩
      have B1 := Lib.hid hb
      have S1 := Lib.hid ((R1.out.below hb (Nat.le_refl _)).more hb.size)
      have S2 := Lib.hid ((R2.out.below hb (Nat.le_refl _)).more hb.size)
      clear hb
      go_wp2_with fail
      refine (C2.out w1 S1.out S2.out).mono ?_
      rintro e w2 ⟨rfl, hb⟩
      have B2 := Lib.hid (B1.out.trans (hb.mono B1.out.size))
      clear hb
      go_wp2_with fail
      refine (known_ok _ (HT.out.below' B2.out)).mono ?_
      rintro e w8 ⟨rfl, hb⟩
      go_wp2_with fail
      go_ret
      exact ⟨rfl, B2.out.trans (hb.mono B2.out.size)⟩
  · have HM := Lib.hid (fun w => Many_any A1 c1 l.length true w hn1 hlong)
    clear hlong
    go_enter Tryd.func9, Tryd.ntmps9
    go_wp2_with fail
    refine (HM.out w).mono ?_
    rintro e w' ⟨rfl, rfl⟩
    go_wp2_with fail
    refine (known_ok w HT.out).mono ?_
    rintro e w1 ⟨rfl, hb⟩
    have B1 := Lib.hid hb
    clear hb
    go_wp2_with fail
    go_ret
    exact ⟨rfl, B1.out⟩
end Go.Proofs.YtnnlbllkckakbaaDoor

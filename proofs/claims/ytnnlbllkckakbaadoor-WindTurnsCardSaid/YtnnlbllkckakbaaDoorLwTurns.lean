/-
  The walk of the law WindTurns: it returns true. Condition: 'Tabs'.
-/
import Derived.Test.YtnnlbllkckakbaaDoorWi5
import Derived.Test.YtnnlbllkckakbaaDoorWi3
namespace Go.Proofs.YtnnlbllkckakbaaDoor
open Go.RowKit
set_option linter.unusedVariables false

theorem setE_nat {x : Nat} (hx : x < 4294967296) : setE (x : Int) = 0 := setE_zero.2 (setB_iff.2 ⟨by omega, by omega⟩)
theorem setB_nat {x : Nat} (hx : x < 4294967296) : setB (x : Int) = true := setB_iff.2 ⟨by omega, by omega⟩
theorem turV_nat {x : Nat} (hx : x < 4294967296) (k : Int) : turV (x : Int) k = (rotN x (byN k) : Nat) := by
  unfold turV
  rw [if_pos (setB_nat hx), Int.toNat_natCast]
theorem mirV_nat {x : Nat} (hx : x < 4294967296) : mirV (x : Int) = (mirN x : Nat) := by
  unfold mirV
  rw [if_pos (setB_nat hx), Int.toNat_natCast]
set_option maxHeartbeats 800000 in
theorem WindTurns_walk (n k : Int) (w : World) (ht : Tabs w) :
    Calls Tryd.prog 5 #[.int .i64 n, .int .i64 k] w fun e w' => e = .returned (.bool true) ∧ Below w.heap.size w w' := by
  have HT := Lib.hid ht
  clear ht
  have C1 := Lib.hid (fun w => Turn_any n k w)
  have C2 := Lib.hid (fun w => rTurn_any n k w)
  have C3 := Lib.hid (fun w => Mirror_any n w)
  have C4 := Lib.hid (fun w => rMirror_any n w)
  by_cases h : setB n = true
  · obtain ⟨x, rfl, hx⟩ := set_nat h
    have l1 := rot_lt (s := byN k) hx
    have l2 := mir_lt hx
    have C5 := Lib.hid (fun w => Mirror_any (rotN x (byN k) : Nat) w)
    have C6 := Lib.hid (fun w => Turn_any (mirN x : Nat) (wrap64 (-k)) w)
    have C7 := Lib.hid (fun w => Turn_any (rotN x (byN k) : Nat) (wrap64 (-k)) w)
    rw [setE_nat l1, mirV_nat l1] at C5
    rw [setE_nat l2, turV_nat l2, ← mir_rot hx k] at C6
    rw [setE_nat l1, turV_nat l1, rot_back hx k] at C7
    rw [setE_nat hx, turV_nat hx] at C1 C2
    rw [setE_nat hx, mirV_nat hx] at C3 C4
    clear h l1 l2
    generalize mirN (rotN x (byN k)) = z at *
    generalize rotN x (byN k) = y at *
    generalize mirN x = v at *
    go_enter Tryd.func5, Tryd.ntmps5
    go_wp2_with fail
    refine (C1.out w).mono ?_
    rintro e w' ⟨rfl, rfl⟩
    go_wp2_with fail
    refine (C2.out w).mono ?_
    rintro e w1 ⟨rfl, hb⟩
    have B1 := Lib.hid hb
    clear hb
    go_wp2_with fail
    refine (C3.out w1).mono ?_
    rintro e w' ⟨rfl, rfl⟩
    go_wp2_with fail
    refine (C4.out w1).mono ?_
    rintro e w2 ⟨rfl, hb⟩
    have B2 := Lib.hid (B1.out.trans (hb.mono B1.out.size))
    clear hb
    go_wp2_with fail
    refine (C5.out w2).mono ?_
    rintro e w' ⟨rfl, rfl⟩
    go_wp2_with fail
    refine (C6.out w2).mono ?_
    rintro e w' ⟨rfl, rfl⟩
    go_wp2_with fail
    refine (C7.out w2).mono ?_
    rintro e w' ⟨rfl, rfl⟩
    go_wp2_with fail
    refine (known_ok w2 (HT.out.below' B2.out)).mono ?_
    rintro e w3 ⟨rfl, hb⟩
    have B3 := Lib.hid (B2.out.trans (hb.mono B2.out.size))
    clear hb
    go_wp2_with fail
    go_ret
    exact ⟨rfl, B3.out⟩
  · have h1 : setE n = 1 := if_neg h
    rw [h1] at C1 C2 C3 C4
    generalize turV n k = y at *
    generalize mirV n = v at *
    clear h h1
    go_enter Tryd.func5, Tryd.ntmps5
    go_wp2_with fail
    refine (C1.out w).mono ?_
    rintro e w' ⟨rfl, rfl⟩
    go_wp2_with fail
    refine (C2.out w).mono ?_
    rintro e w1 ⟨rfl, hb⟩
    have B1 := Lib.hid hb
    clear hb
    go_wp2_with fail
    refine (C3.out w1).mono ?_
    rintro e w' ⟨rfl, rfl⟩
    go_wp2_with fail
    refine (C4.out w1).mono ?_
    rintro e w2 ⟨rfl, hb⟩
    have B2 := Lib.hid (B1.out.trans (hb.mono B1.out.size))
    clear hb
    go_wp2_with fail
    refine (known_ok w2 (HT.out.below' B2.out)).mono ?_
    rintro e w3 ⟨rfl, hb⟩
    have B3 := Lib.hid (B2.out.trans (hb.mono B2.out.size))
    clear hb
    go_wp2_with fail
    go_ret
    exact ⟨rfl, B3.out⟩
end Go.Proofs.YtnnlbllkckakbaaDoor

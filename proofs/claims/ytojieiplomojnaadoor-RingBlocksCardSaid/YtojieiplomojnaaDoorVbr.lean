/-
  The walk of ValidateBlocks of the reference. No condition.
-/
import Derived.Test.YtojieiplomojnaaDoorVbs
namespace Go.Proofs.YtojieiplomojnaaDoor
open Go.RowKit
set_option linter.unusedVariables false

/-- How a block's test goes, in the order of the text. -/
theorem blk_cases (f t : Int) : (decide (f < 0) = true ∧ (decide (0 ≤ f) && decide (f ≤ t) && decide (t ≤ 99999)) = false) ∨ (decide (f < 0) = false ∧ decide (t < f) = true ∧ (decide (0 ≤ f) && decide (f ≤ t) && decide (t ≤ 99999)) = false) ∨
    (decide (f < 0) = false ∧ decide (t < f) = false ∧ decide (99999 < t) = true ∧ (decide (0 ≤ f) && decide (f ≤ t) && decide (t ≤ 99999)) = false) ∨ (decide (f < 0) = false ∧ decide (t < f) = false ∧ decide (99999 < t) = false ∧ (decide (0 ≤ f) && decide (f ≤ t) && decide (t ≤ 99999)) = true) := by
  simp only [decide_eq_true_eq, decide_eq_false_iff_not, Bool.and_eq_true, Bool.and_eq_false_iff]
  omega
theorem meet_cases (x y : Blk) : ((x.s.toList == y.s.toList) = false ∧ meetB x y = false) ∨ ((x.s.toList == y.s.toList) = true ∧ decide (x.f ≤ y.t) = false ∧ meetB x y = false) ∨ ((x.s.toList == y.s.toList) = true ∧ decide (x.f ≤ y.t) = true ∧ decide (y.f ≤ x.t) = false ∧ meetB x y = false) ∨
    ((x.s.toList == y.s.toList) = true ∧ decide (x.f ≤ y.t) = true ∧ decide (y.f ≤ x.t) = true ∧ meetB x y = true) := by
  unfold meetB
  by_cases hs : x.s = y.s
  · have : x.s.toList = y.s.toList := by rw [hs]
    cases h1 : decide (x.f ≤ y.t) <;> cases h2 : decide (y.f ≤ x.t) <;> simp [hs]
  · have : ¬ x.s.toList = y.s.toList := fun h => hs (toList_inj h)
    simp [hs, this]
set_option maxHeartbeats 8000000 in
theorem rValidateBlocks_any (A : Option Addr) (c : Nat) (l : List Blk) (w : World) (hr : Rd w w.heap.size A (blks l)) (hsz : ∀ x ∈ l, x.s.size ≤ 9223372036854775807) (hn : l.length ≤ c) (hc : c ≤ 9223372036854775807) :
    Calls Tryd.prog 51 #[.slice A l.length c] w fun e w' => e = .returned (.int .i64 (blocksE l)) ∧ ∃ n, w' = w.drewN n := by
  have HR := Lib.hid hr
  have HZ := Lib.hid hsz
  clear hr hsz
  by_cases h8 : 8 < l.length
  · have hE : blocksE l = 3 := if_pos h8
    rw [hE]
    have h8' : (8 : Int) < (l.length : Int) := by omega
    clear hE h8
    go_enter Tryd.func51, Tryd.ntmps51
    go_wp2
    go_ret
    exact ⟨rfl, 0, rfl⟩
  · have H8 := Lib.hid h8
    have h8' : ¬ (8 : Int) < (l.length : Int) := by omega
    go_enter Tryd.func51, Tryd.ntmps51
    go_wp2
    clear h8'
    go_loopw [3] (fun i wr => ∃ k : Nat, k ≤ l.length ∧ i = .int .i64 k ∧ AllOk l k ∧ ∃ m, wr = w.drewN m) (fun i _ => l.length - (intOf i).toNat)
    case atStart => exact ⟨0, by omega, rfl, fun j x hj => by omega, 0, rfl⟩
    case round =>
      obtain ⟨k, hk, rfl, hall, m, rfl⟩ := hrel
      have HA := Lib.hid hall
      clear hall
      by_cases hlt : k < l.length
      · obtain ⟨b, o, x, rfl, hx, c0, c1, c2⟩ := HR.out.blk k hlt
        have HV := Lib.hid (fun w => rIsSeries_any x.s w (mem_size HZ.out hx.out))
        cases hs : seriesB x.s
        · rw [hs] at HV
          have HE := Lib.hid (show blkE x = 2 by unfold blkE; rw [hs]; rfl)
          clear hs
          go_wp2_with fail
          refine (HV.out _).mono ?_
          rintro e w1 ⟨rfl, rfl⟩
          go_wp2_with fail
          go_ret
          exact ⟨by rw [blocksE, if_neg H8.out, firstE_bad HA.out hx.out (by rw [HE.out]; decide), HE.out]; rfl, m, rfl⟩
        · rw [hs] at HV
          have hbk : blkE x = if (decide (0 ≤ x.f) && decide (x.f ≤ x.t) && decide (x.t ≤ 99999)) = true then 0 else 1 := by unfold blkE; rw [hs]; simp
          have HB := Lib.hid hbk
          clear hbk hs
          rcases blk_cases x.f x.t with ⟨g1, g4⟩ | ⟨g1, g2, g4⟩ | ⟨g1, g2, g3, g4⟩ | ⟨g1, g2, g3, g4⟩
          · have HE := Lib.hid (show blkE x = 1 by rw [HB.out, g4]; rfl)
            clear g4
            go_wp2_with fail
            refine (HV.out _).mono ?_
            rintro e w1 ⟨rfl, rfl⟩
            go_wp2_with fail
            go_quiet (fail)
            go_wp2
            go_ret
            exact ⟨by rw [blocksE, if_neg H8.out, firstE_bad HA.out hx.out (by rw [HE.out]; decide), HE.out]; rfl, _, World.drewN_drewN _ _ _⟩
          · have HE := Lib.hid (show blkE x = 1 by rw [HB.out, g4]; rfl)
            clear g4
            go_wp2_with fail
            refine (HV.out _).mono ?_
            rintro e w1 ⟨rfl, rfl⟩
            go_wp2_with fail
            go_quiet (fail)
            go_wp2
            go_ret
            exact ⟨by rw [blocksE, if_neg H8.out, firstE_bad HA.out hx.out (by rw [HE.out]; decide), HE.out]; rfl, _, World.drewN_drewN _ _ _⟩
          · have HE := Lib.hid (show blkE x = 1 by rw [HB.out, g4]; rfl)
            clear g4
            go_wp2_with fail
            refine (HV.out _).mono ?_
            rintro e w1 ⟨rfl, rfl⟩
            go_wp2_with fail
            go_quiet (fail)
            go_wp2
            go_ret
            exact ⟨by rw [blocksE, if_neg H8.out, firstE_bad HA.out hx.out (by rw [HE.out]; decide), HE.out]; rfl, _, World.drewN_drewN _ _ _⟩
          · have HE := Lib.hid (show blkE x = 0 by rw [HB.out, g4]; rfl)
            clear g4
            go_wp2_with fail
            refine (HV.out _).mono ?_
            rintro e w1 ⟨rfl, rfl⟩
            go_wp2_with fail
            go_quiet (fail)
            go_wp2
            go_roundw
            case rel => exact ⟨k + 1, by omega, by go_num, HA.out.next hx.out HE.out, _, rfl⟩
            case measure => simp [intOf]; omega
      · have hks : k = l.length := by omega
        have HK := Lib.hid hks
        obtain ⟨m0, hm0⟩ : ∃ m0, m = m0 := ⟨_, rfl⟩
        have HF := Lib.hid (firstE_ok (show AllOk l l.length by rw [← hks]; exact HA.out))
        clear hks hm0
        go_wp2_with fail
        go_loopw [4] (fun i wr => ∃ k : Nat, k ≤ l.length ∧ i = .int .i64 k ∧ NoTwice l k ∧ ∃ m, wr = w.drewN m) (fun i _ => l.length - (intOf i).toNat)
        case atStart => exact ⟨0, by omega, rfl, fun i k x y hi => by omega, m, rfl⟩
        case round =>
          obtain ⟨i, hi, rfl, hno, m1, rfl⟩ := hrel
          have HN := Lib.hid hno
          clear hno
          by_cases hlt2 : i < l.length
          · obtain ⟨b, o, x, rfl, hx, c0, c1, c2⟩ := HR.out.blk i hlt2
            go_wp2_with fail
            go_loopw [5] (fun j wr => ∃ k : Nat, k ≤ i ∧ j = .int .i64 k ∧ (∀ k' y, k' < k → l[k']? = some y → meetB x y = false) ∧ ∃ m, wr = w.drewN m) (fun j _ => i - (intOf j).toNat)
            case atStart => exact ⟨0, by omega, rfl, fun k' y h => by omega, m1, rfl⟩
            case round =>
              obtain ⟨k', hk', rfl, hnm, m2, rfl⟩ := hrel
              have HM := Lib.hid hnm
              clear hnm
              by_cases hlt3 : k' < i
              · obtain ⟨b', o', y, hbo, hy, f0, f1, f2⟩ := HR.out.blk k' (by omega)
                cases hbo
                rcases meet_cases x y with ⟨g1, g4⟩ | ⟨g1, g2, g4⟩ | ⟨g1, g2, g3, g4⟩ | ⟨g1, g2, g3, g4⟩
                · have HMM := Lib.hid g4
                  clear g4
                  go_wp2_with fail
                  go_quiet (fail)
                  go_wp2
                  go_roundw
                  case rel => exact ⟨k' + 1, by omega, by go_num, fun k2 z h2 hz => by
                    rcases Nat.lt_or_ge k2 k' with h3 | h3
                    · exact HM.out k2 z h3 hz
                    · obtain rfl : k2 = k' := by omega
                      rw [hy.out] at hz
                      cases hz
                      exact HMM.out, _, rfl⟩
                  case measure => simp [intOf]; omega
                · have HMM := Lib.hid g4
                  clear g4
                  go_wp2_with fail
                  go_quiet (fail)
                  go_wp2
                  go_roundw
                  case rel => exact ⟨k' + 1, by omega, by go_num, fun k2 z h2 hz => by
                    rcases Nat.lt_or_ge k2 k' with h3 | h3
                    · exact HM.out k2 z h3 hz
                    · obtain rfl : k2 = k' := by omega
                      rw [hy.out] at hz
                      cases hz
                      exact HMM.out, _, rfl⟩
                  case measure => simp [intOf]; omega
                · have HMM := Lib.hid g4
                  clear g4
                  go_wp2_with fail
                  go_quiet (fail)
                  go_wp2
                  go_roundw
                  case rel => exact ⟨k' + 1, by omega, by go_num, fun k2 z h2 hz => by
                    rcases Nat.lt_or_ge k2 k' with h3 | h3
                    · exact HM.out k2 z h3 hz
                    · obtain rfl : k2 = k' := by omega
                      rw [hy.out] at hz
                      cases hz
                      exact HMM.out, _, rfl⟩
                  case measure => simp [intOf]; omega
                · have HMM := Lib.hid g4
                  clear g4
                  go_wp2_with fail
                  go_quiet (fail)
                  go_wp2
                  go_ret
                  exact ⟨by rw [blocksE, if_neg H8.out, if_pos HF.out, if_pos (twice_yes hlt3 hx.out hy.out HMM.out)]; rfl, _, World.drewN_drewN _ _ _⟩
              · have hki : k' = i := by omega
                have HKI := Lib.hid hki
                clear hki
                go_wp2_with fail
                go_roundw
                case rel => exact ⟨i + 1, by omega, by go_num, fun i' k2 u v h1 h2 hu hv => by
                  rcases Nat.lt_or_ge i' i with h3 | h3
                  · exact HN.out i' k2 u v h3 h2 hu hv
                  · obtain rfl : i' = i := by omega
                    rw [hx.out] at hu
                    cases hu
                    exact HM.out k2 v (by rw [HKI.out]; exact h2) hv, _, rfl⟩
                case measure => simp [intOf]; omega
          · have hki : i = l.length := by omega
            have HKI := Lib.hid hki
            clear hki
            go_wp2_with fail
            go_ret
            exact ⟨by rw [blocksE, if_neg H8.out, if_pos HF.out, twice_no (by have := HN.out; rw [HKI.out] at this; exact this)]; rfl, _, rfl⟩
end Go.Proofs.YtojieiplomojnaaDoor

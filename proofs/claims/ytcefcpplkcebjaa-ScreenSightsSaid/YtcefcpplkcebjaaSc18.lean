/-
  The walk of the law ScreenSights. No condition.
-/
import Derived.Test.YtcefcpplkcebjaaSc17
namespace Go.Proofs.Ytcefcpplkcebjaa
open Go.RowKit
set_option linter.unusedVariables false

structure SightSet (L : List Int) (f : Nat → Nat) : Prop where
  is : L = (List.range L.length).map fun i => (f i : Int)
  few : L.length ≤ 16
  small : ∀ i, f i < 65536
  same : ∀ i k, i < L.length → k < L.length → (f i >>> k) % 2 = (f k >>> i) % 2
theorem sight_set (l : List Sg) (pts : List Pt) : ∃ f, SightSet (sightV l pts) f := by
  by_cases h : chkE l pts 16 = 0
  · have hv : sightV l pts = rowsK l pts pts.length := if_pos h
    obtain ⟨_, h16, _⟩ := chk_zero h
    have hlen : (rowsK l pts pts.length).length = pts.length := by simp [rowsK]
    refine ⟨rowN l pts, ?_, ?_, ?_, ?_⟩
    · rw [hv, hlen]; rfl
    · rw [hv, hlen]; exact h16
    · intro i; exact bit_small _ h16
    · intro i k hi hk
      rw [hv, hlen] at hi hk
      have e1 := bitK_test (seePt l pts i) pts.length k hk
      have e2 := bitK_test (seePt l pts k) pts.length i hi
      have e3 : seePt l pts i k = seePt l pts k i := by
        rw [seePt_is (List.getElem?_eq_getElem hi) (List.getElem?_eq_getElem hk), seePt_is (List.getElem?_eq_getElem hk) (List.getElem?_eq_getElem hi)]
        exact seesB_rev _ _ _
      rw [← e1, ← e2, Nat.testBit_eq_decide_div_mod_eq, Nat.testBit_eq_decide_div_mod_eq] at e3
      rw [Nat.shiftRight_eq_div_pow, Nat.shiftRight_eq_div_pow]
      show bitK _ _ / _ % 2 = bitK _ _ / _ % 2
      generalize bitK (seePt l pts i) pts.length / 2 ^ k = a at e3 ⊢
      generalize bitK (seePt l pts k) pts.length / 2 ^ i = b at e3 ⊢
      have := decide_eq_decide.1 e3
      omega
  · have hv : sightV l pts = [] := if_neg h
    exact ⟨fun _ => 0, by rw [hv]; rfl, by rw [hv]; simp, fun _ => by omega, fun i k hi hk => by rw [hv] at hi; simp at hi⟩
theorem shr_and {n k : Nat} (hn : n < 65536) : bits .and .i64 ((n : Int) / 2 ^ k) 1 = (((n >>> k) % 2 : Nat) : Int) := by
  have e : (n : Int) / 2 ^ k = ((n / 2 ^ k : Nat) : Int) := by simp
  have hl : n / 2 ^ k ≤ n := Nat.div_le_self _ _
  rw [e, show (1 : Int) = ((1 : Nat) : Int) from rfl, i64_and_nat (n / 2 ^ k) 1 (by omega) (by omega), Nat.and_one_is_mod, Nat.shiftRight_eq_div_pow]
set_option maxRecDepth 100000 in
set_option maxHeartbeats 1600000 in
theorem ScreenSights_walk (A1 A2 : Option Addr) (c1 c2 : Nat) (l : List Sg) (pts : List Pt) (w : World) (hr1 : Rd w w.heap.size A1 (l.flatMap Sg.cells)) (hr2 : Rd w w.heap.size A2 (pts.flatMap Pt.cells)) (hc1 : l.length ≤ c1) (hm1 : c1 ≤ maxLen) (hc2 : pts.length ≤ c2) (hm2 : c2 ≤ maxLen) :
    Calls Try.prog 6 #[.slice A1 l.length c1, .slice A2 pts.length c2] w fun e w' => e = .returned (.bool true) ∧ Below w.heap.size w w' := by
  have R1 := Lib.hid hr1
  have R2 := Lib.hid hr2
  clear hr1 hr2
  unfold maxLen at hm1 hm2
  cases hlong : (decide (100 < l.length) || decide (100 < pts.length))
  · have HL := Lib.hid (fun w => Long_any A1 A2 c1 c2 l.length pts.length false w (by omega) (by omega) hlong)
    simp only [Bool.or_eq_false_iff, decide_eq_false_iff_not] at hlong
    have S1 := Lib.hid (fun w h g => Sights_any A1 A2 c1 c2 l pts w h g (by omega) (by omega))
    have S2 := Lib.hid (fun w h g => rSights_any A1 A2 c1 c2 l pts w h g (by omega) (by omega))
    obtain ⟨f, hf⟩ := sight_set l pts
    have HF := Lib.hid hf
    clear hlong hf
    generalize chkE l pts 16 = E at *
    generalize sightV l pts = K at *
    go_enter Try.func6, Try.ntmps6
    go_wp2_with fail
    refine (HL.out w).mono ?_
    rintro e w' ⟨rfl, rfl⟩
    go_wp2_with fail
    refine (S1.out w R1.out R2.out).mono ?_
    rintro e w1 ⟨A3, c3, rfl, hr3, hb⟩
    have K3 := Lib.hid hr3
    have B1 := Lib.hid hb
    have P1 := Lib.hid ((R1.out.below hb (Nat.le_refl _)).more hb.size)
    have P2 := Lib.hid ((R2.out.below hb (Nat.le_refl _)).more hb.size)
    clear hb hr3
    go_wp2_with fail
    refine (S2.out w1 P1.out P2.out).mono ?_
    rintro e w2 ⟨A4, c4, rfl, hr4, hb⟩
    have K4 := Lib.hid hr4
    have L4 := Lib.hid ((K3.out.below hb (Nat.le_refl _)).more hb.size)
    have B2 := Lib.hid (B1.out.trans (hb.mono B1.out.size))
    clear hb hr4
    go_wp2_with fail
    refine (SameInts_same A3 A4 c3 c4 K _ _ w2 rfl rfl L4.out K4.out (by have := HF.out.few; omega)).mono ?_
    rintro e w' ⟨rfl, m, rfl⟩
    have hfew := HF.out.few
    go_wp2_with fail
    go_loopw [9] (fun i wr => ∃ k : Nat, k ≤ K.length ∧ i = .int .i64 k ∧ ∃ m, wr = w2.drewN m) (fun i _ => K.length - (intOf i).toNat)
    case atStart => exact ⟨0, by omega, rfl, m, rfl⟩
    case round =>
      obtain ⟨i, hi, rfl, m', rfl⟩ := hrel
      by_cases hlt : i < K.length
      · obtain ⟨b, o, d, rfl, hd, hc⟩ := (L4.out.int i hlt)
        have hdi : d = (f i : Int) := by
          have := hd.out
          rw [HF.out.is, List.getElem?_map, List.getElem?_range hlt] at this
          exact (Option.some.inj this).symm
        subst hdi
        go_wp2_with fail
        go_loopw [10] (fun j wr => ∃ k : Nat, k ≤ i ∧ j = .int .i64 k ∧ ∃ m, wr = w2.drewN m) (fun j _ => i - (intOf j).toNat)
        case atStart => exact ⟨0, by omega, rfl, m', rfl⟩
        case round =>
          obtain ⟨k, hk, rfl, m2, rfl⟩ := hrel
          by_cases hlt2 : k < i
          · obtain ⟨b', o', d', hbo, hd', hc'⟩ := L4.out.int k (by omega)
            cases hbo
            have hdk : d' = (f k : Int) := by
              have := hd'.out
              rw [HF.out.is, List.getElem?_map, List.getElem?_range (by omega)] at this
              exact (Option.some.inj this).symm
            subst hdk
            have hbit : (bits .and .i64 ((f i : Int) / 2 ^ k) 1 != bits .and .i64 ((f k : Int) / 2 ^ i) 1) = false := by
              rw [shr_and (HF.out.small i), shr_and (HF.out.small k), HF.out.same i k hlt (by omega)]
              exact bne_self_eq_false _
            go_wp2_with fail
            go_quiet (fail)
            go_wp2
            go_roundw
            case rel => exact ⟨k + 1, by omega, by go_num, _, rfl⟩
            case measure => simp [intOf]; omega
          · have hks : k = i := by omega
            have HK := Lib.hid hks
            clear hks
            go_wp2_with fail
            go_roundw
            case rel => exact ⟨i + 1, by omega, by go_num, _, rfl⟩
            case measure => simp [intOf]; omega
      · have hks : i = K.length := by omega
        have HK := Lib.hid hks
        clear hks
        go_wp2_with fail
        refine (known_ok (w2.drewN m')).mono ?_
        rintro e w8 ⟨rfl, hb⟩
        have B8 := Lib.hid (B2.out.trans (((below_drewN (Below.refl _ _) m').trans hb).mono B2.out.size))
        clear hb
        go_wp2_with fail
        go_ret
        exact ⟨rfl, B8.out⟩
  · have HL := Lib.hid (fun w => Long_any A1 A2 c1 c2 l.length pts.length true w (by omega) (by omega) hlong)
    clear hlong
    go_enter Try.func6, Try.ntmps6
    go_wp2_with fail
    refine (HL.out w).mono ?_
    rintro e w' ⟨rfl, rfl⟩
    go_wp2_with fail
    refine (known_ok w).mono ?_
    rintro e w1 ⟨rfl, hb⟩
    go_wp2_with fail
    go_ret
    exact ⟨rfl, hb⟩
end Go.Proofs.Ytcefcpplkcebjaa

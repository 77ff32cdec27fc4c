/-
  The walk of the law WindPipes: it returns true. Conditions: 'Tabs', and that the slice can be read.
-/
import Derived.Test.YtnnlbllkckakbaaDoorWi11
import Derived.Test.YtnnlbllkckakbaaDoorLwArcs
namespace Go.Proofs.YtnnlbllkckakbaaDoor
open Go.RowKit
set_option linter.unusedVariables false

theorem Many_any (A : Option Addr) (c n : Nat) (b : Bool) (w : World) (hn : n ≤ 9223372036854775807) (h : decide (60 < n) = b) :
    Calls Tryd.prog 35 #[.slice A n c] w fun e w' => e = .returned (.bool b) ∧ w = w' := by
  have h2 : decide ((60 : Int) < (n : Int)) = b := by
    rw [← h, decide_eq_decide]
    omega
  clear h
  go_enter Tryd.func35, Tryd.ntmps35
  go_wp2
  go_ret
  exact ⟨rfl, rfl⟩
theorem lee_shift (l : List Pt) {q : Nat} (hq : q < 32) : (bits .and .i64 (((leeN l : Nat) : Int) / 2 ^ q) 1 == 1) = leeB l q := by
  have hl : leeN l < 4294967296 := bit32 _
  have h := bit_div (n := leeN l) (j := q)
  have ht : (leeN l).testBit q = leeB l q := bitK_test _ _ _ hq
  have e : ((leeN l : Nat) : Int) / 2 ^ q = ((leeN l / 2 ^ q : Nat) : Int) := by simp
  have hd : leeN l / 2 ^ q ≤ leeN l := Nat.div_le_self _ _
  rw [e, show (1 : Int) = ((1 : Nat) : Int) from rfl, i64_and_nat _ _ (by omega) (by decide), Nat.and_one_is_mod, h, ht]
  cases leeB l q <;> rfl
set_option maxHeartbeats 1600000 in
set_option maxRecDepth 4000 in
theorem WindPipes_walk (A : Option Addr) (c : Nat) (l : List Pt) (p : Int) (w : World) (hr : Rd w w.heap.size A (l.flatMap Pt.cells)) (ht : Tabs w) (hm : l.length ≤ c) (hcm : c ≤ maxLen) :
    Calls Tryd.prog 8 #[.slice A l.length c, .int .i64 p] w fun e w' => e = .returned (.bool true) ∧ Below w.heap.size w w' := by
  have HT := Lib.hid ht
  have HR := Lib.hid hr
  clear ht hr
  unfold maxLen at hcm
  have hn : l.length ≤ 9223372036854775807 := by omega
  cases hlong : decide (60 < l.length)
  · have HM := Lib.hid (fun w => Many_any A c l.length false w hn hlong)
    have C1 := Lib.hid (fun w h => Workable_any A c l p w h hn)
    have C2 := Lib.hid (fun w h => rWorkable_any A c l p w h hn)
    have C3 := Lib.hid (fun w h => Lee_any A c l w h hn)
    have C4 := Lib.hid (fun w h => rLee_any A c l w h hn)
    have C5 := Lib.hid (fun w h => ValidatePipes_any A c l w h hn)
    have C6 := Lib.hid (fun w h => rValidatePipes_any A c l w h hn)
    have hlen : (wkV l p).length ≤ 60 := by
      unfold wkV
      split
      · have := listK_le (workB l p.toNat) l.length
        simp at hlong
        unfold wkL
        omega
      · simp
    clear hlong hm
    by_cases hE : wkE l p = 0
    · obtain ⟨hp0, hpt⟩ := wkE_zero hE
      have hV : wkV l p = wkL l p.toNat := if_pos hE
      rw [pt_iff] at hpt
      obtain ⟨q, rfl⟩ := Int.eq_ofNat_of_zero_le hpt.1
      have hq : q < 32 := by omega
      rw [Int.toNat_natCast] at hV
      have hsh := lee_shift l hq
      have hwl := wk_len l q
      have hlv : leeV l = (leeN l : Nat) := if_pos hp0
      have hll : leeN l < 4294967296 := bit32 _
      rw [hE] at C1 C2
      rw [hp0, hlv] at C3 C4
      rw [hp0] at C5 C6
      rw [hV] at C1 C2 hlen
      have hlen2 : (((wkL l q).length : Int) == 0) = leeB l q := by
        rw [← hwl]
        cases hb : ((wkL l q).length == 0)
        · have : (wkL l q).length ≠ 0 := by simpa using hb
          exact beq_eq_false_iff_ne.2 (by omega)
        · have : (wkL l q).length = 0 := by simpa using hb
          exact beq_iff_eq.2 (by omega)
      have hpw : IntKind.u64.wrap (q : Int) = (q : Int) := by rw [IntKind.wrap_u64]; omega
      clear hE hp0 hV hlv hwl hpt
      generalize leeB l q = B at *
      generalize leeN l = M at *
      generalize wkL l q = L at *
      go_enter Tryd.func8, Tryd.ntmps8
      go_wp2_with fail
      refine (HM.out w).mono ?_
      rintro e w' ⟨rfl, rfl⟩
      go_wp2_with fail
      refine (C1.out w HR.out).mono ?_
      rintro e w1 ⟨A1, c1, rfl, hc1, hr1, hb⟩
      have B1 := Lib.hid hb
      have P1 := Lib.hid hr1
      have S1 := Lib.hid ((HR.out.below hb (Nat.le_refl _)).more hb.size)
      clear hb hr1
      go_wp2_with fail
      refine (C2.out w1 S1.out).mono ?_
      rintro e w2 ⟨A2, c2, rfl, hc2, hr2, hb⟩
      have B2 := Lib.hid (B1.out.trans (hb.mono B1.out.size))
      have P2 := Lib.hid hr2
      have P12 := Lib.hid ((P1.out.below hb (Nat.le_refl _)).more hb.size)
      have S2 := Lib.hid ((S1.out.below hb (Nat.le_refl _)).more hb.size)
      clear hb hr2
      go_wp2_with fail
      refine (C3.out w2 S2.out).mono ?_
      rintro e w3 ⟨rfl, hb⟩
      have B3 := Lib.hid (B2.out.trans (hb.mono B2.out.size))
      have P13 := Lib.hid ((P12.out.below hb (Nat.le_refl _)).more hb.size)
      have P23 := Lib.hid ((P2.out.below hb (Nat.le_refl _)).more hb.size)
      have S3 := Lib.hid ((S2.out.below hb (Nat.le_refl _)).more hb.size)
      clear hb
      go_wp2_with fail
      refine (C4.out w3 S3.out).mono ?_
      rintro e w4 ⟨rfl, hb⟩
      have B4 := Lib.hid (B3.out.trans (hb.mono B3.out.size))
      have P14 := Lib.hid ((P13.out.below hb (Nat.le_refl _)).more hb.size)
      have P24 := Lib.hid ((P23.out.below hb (Nat.le_refl _)).more hb.size)
      have S4 := Lib.hid ((S3.out.below hb (Nat.le_refl _)).more hb.size)
      clear hb
      go_wp2_with fail
      refine (C5.out w4 S4.out).mono ?_
      rintro e w5 ⟨rfl, hb⟩
      have B5 := Lib.hid (B4.out.trans (hb.mono B4.out.size))
      have P15 := Lib.hid ((P14.out.below hb (Nat.le_refl _)).more hb.size)
      have P25 := Lib.hid ((P24.out.below hb (Nat.le_refl _)).more hb.size)
      have S5 := Lib.hid ((S4.out.below hb (Nat.le_refl _)).more hb.size)
      clear hb
      go_wp2_with fail
      refine (C6.out w5 S5.out).mono ?_
      rintro e w6 ⟨rfl, hb⟩
      have B6 := Lib.hid (B5.out.trans (hb.mono B5.out.size))
      have P16 := Lib.hid ((P15.out.below hb (Nat.le_refl _)).more hb.size)
      have P26 := Lib.hid ((P25.out.below hb (Nat.le_refl _)).more hb.size)
      clear hb
      go_wp2_with fail
      refine (SameInts_same A1 A2 c1 c2 L _ _ w6 rfl rfl P16.out P26.out (by omega)).mono ?_
      rintro e w' ⟨rfl, m, rfl⟩
      have B7 := Lib.hid (below_drewN B6.out m)
      go_wp2_with fail
      refine (known_ok _ (HT.out.below' B7.out)).mono ?_
      rintro e w8 ⟨rfl, hb⟩
      go_wp2_with fail
      go_ret
      exact ⟨rfl, B7.out.trans (hb.mono B7.out.size)⟩
    · generalize wkE l p = E at *
      have he1 : (E == 0) = false := by simpa using hE
      have he2 : (E != 0) = true := by simpa using hE
      clear hE
      generalize pipesE l = G at *
      generalize leeV l = M at *
      generalize wkV l p = L at *
      go_enter Tryd.func8, Tryd.ntmps8
      go_wp2_with fail
      refine (HM.out w).mono ?_
      rintro e w' ⟨rfl, rfl⟩
      go_wp2_with fail
      refine (C1.out w HR.out).mono ?_
      rintro e w1 ⟨A1, c1, rfl, hc1, hr1, hb⟩
      have B1 := Lib.hid hb
      have P1 := Lib.hid hr1
      have S1 := Lib.hid ((HR.out.below hb (Nat.le_refl _)).more hb.size)
      clear hb hr1
      go_wp2_with fail
      refine (C2.out w1 S1.out).mono ?_
      rintro e w2 ⟨A2, c2, rfl, hc2, hr2, hb⟩
      have B2 := Lib.hid (B1.out.trans (hb.mono B1.out.size))
      have P2 := Lib.hid hr2
      have P12 := Lib.hid ((P1.out.below hb (Nat.le_refl _)).more hb.size)
      have S2 := Lib.hid ((S1.out.below hb (Nat.le_refl _)).more hb.size)
      clear hb hr2
      go_wp2_with fail
      refine (C3.out w2 S2.out).mono ?_
      rintro e w3 ⟨rfl, hb⟩
      have B3 := Lib.hid (B2.out.trans (hb.mono B2.out.size))
      have P13 := Lib.hid ((P12.out.below hb (Nat.le_refl _)).more hb.size)
      have P23 := Lib.hid ((P2.out.below hb (Nat.le_refl _)).more hb.size)
      have S3 := Lib.hid ((S2.out.below hb (Nat.le_refl _)).more hb.size)
      clear hb
      go_wp2_with fail
      refine (C4.out w3 S3.out).mono ?_
      rintro e w4 ⟨rfl, hb⟩
      have B4 := Lib.hid (B3.out.trans (hb.mono B3.out.size))
      have P14 := Lib.hid ((P13.out.below hb (Nat.le_refl _)).more hb.size)
      have P24 := Lib.hid ((P23.out.below hb (Nat.le_refl _)).more hb.size)
      have S4 := Lib.hid ((S3.out.below hb (Nat.le_refl _)).more hb.size)
      clear hb
      go_wp2_with fail
      refine (C5.out w4 S4.out).mono ?_
      rintro e w5 ⟨rfl, hb⟩
      have B5 := Lib.hid (B4.out.trans (hb.mono B4.out.size))
      have P15 := Lib.hid ((P14.out.below hb (Nat.le_refl _)).more hb.size)
      have P25 := Lib.hid ((P24.out.below hb (Nat.le_refl _)).more hb.size)
      have S5 := Lib.hid ((S4.out.below hb (Nat.le_refl _)).more hb.size)
      clear hb
      go_wp2_with fail
      refine (C6.out w5 S5.out).mono ?_
      rintro e w6 ⟨rfl, hb⟩
      have B6 := Lib.hid (B5.out.trans (hb.mono B5.out.size))
      have P16 := Lib.hid ((P15.out.below hb (Nat.le_refl _)).more hb.size)
      have P26 := Lib.hid ((P25.out.below hb (Nat.le_refl _)).more hb.size)
      clear hb
      go_wp2_with fail
      refine (SameInts_same A1 A2 c1 c2 L _ _ w6 rfl rfl P16.out P26.out (by omega)).mono ?_
      rintro e w' ⟨rfl, m, rfl⟩
      have B7 := Lib.hid (below_drewN B6.out m)
      go_wp2_with fail
      refine (known_ok _ (HT.out.below' B7.out)).mono ?_
      rintro e w8 ⟨rfl, hb⟩
      go_wp2_with fail
      go_ret
      exact ⟨rfl, B7.out.trans (hb.mono B7.out.size)⟩
  · have HM := Lib.hid (fun w => Many_any A c l.length true w hn hlong)
    clear hlong
    go_enter Tryd.func8, Tryd.ntmps8
    go_wp2_with fail
    refine (HM.out w).mono ?_
    rintro e w' ⟨rfl, rfl⟩
    go_wp2_with fail
    refine (known_ok w HT.out).mono ?_
    rintro e w1 ⟨rfl, hb⟩
    have B1 := Lib.hid hb
    clear hb
    go_wp2_with fail
    go_ret
    exact ⟨rfl, B1.out⟩
end Go.Proofs.YtnnlbllkckakbaaDoor

/-
  The walk of the law WindSets: it returns true. Condition: 'Tabs'.
-/
import Derived.Test.YtnnlbllkckakbaaDoorLwArcs
namespace Go.Proofs.YtnnlbllkckakbaaDoor
open Go.RowKit
set_option linter.unusedVariables false

theorem anyA_next {L : List Pt} {k : Nat} {a : Pt} (h : L[k]? = some a) (j : Nat) : anyA (L.take (k + 1)) j = (anyA (L.take k) j || hasN a j) := by
  unfold anyA
  rw [List.take_add_one, h, List.any_append]
  simp
set_option maxHeartbeats 1600000 in
set_option maxRecDepth 4000 in
theorem WindSets_walk (n : Int) (w : World) (ht : Tabs w) :
    Calls Tryd.prog 4 #[.int .i64 n] w fun e w' => e = .returned (.bool true) ∧ Below w.heap.size w w' := by
  have HT := Lib.hid ht
  clear ht
  have C1 := Lib.hid (fun w => Arcs_any n w)
  have C2 := Lib.hid (fun w => rArcs_any n w)
  by_cases h : setB n = true
  · obtain ⟨x, rfl, hx⟩ := set_nat h
    have hlen := arcsL_len x
    have eV : arcsV (x : Int) = arcsL x := by unfold arcsV; rw [if_pos h, Int.toNat_natCast]
    rw [eV, setE_zero.2 h] at C1 C2
    have hA := arcsL_all hx
    have HD := Lib.hid (fun i j a (h : (arcsL x)[i]? = some a) (hj : j < 32) => arcsL_disj h hj)
    have HO := Lib.hid (fun a (h : a ∈ arcsL x) => arcsL_ok h)
    generalize arcsL x = L at *
    have HA := Lib.hid hA
    clear hA h eV
    go_enter Tryd.func4, Tryd.ntmps4
    go_wp2_with fail
    refine (C1.out w).mono ?_
    rintro e w1 ⟨A1, c1, rfl, _, _, hr1, hb1⟩
    have B1 := Lib.hid hb1
    have R1 := Lib.hid hr1
    clear hb1 hr1
    go_wp2_with fail
    refine (C2.out w1).mono ?_
    rintro e w2 ⟨A2, c2, rfl, _, _, hr2, hb2⟩
    have B2 := Lib.hid (B1.out.trans (hb2.mono B1.out.size))
    have R2 := Lib.hid hr2
    have R3 := Lib.hid ((R1.out.below hb2 (Nat.le_refl _)).more hb2.size)
    clear hb2 hr2
    go_wp2_with fail
    refine (SameArcs_same A1 A2 c1 c2 L _ _ w2 rfl rfl R3.out R2.out (by omega)).mono ?_
    rintro e w3 ⟨rfl, m, rfl⟩
    have B3 := Lib.hid (below_drewN B2.out m)
    go_wp2_with fail
    go_loopw [7, 8] (fun s i wr => ∃ k : Nat, k ≤ L.length ∧ i = .int .i64 k ∧ s = .int .i64 (bitK (anyA (L.take k)) 32 : Nat) ∧ Below w2.heap.size (w2.drewN m) wr) (fun _ i _ => L.length - (intOf i).toNat)
    case atStart => exact ⟨0, by omega, rfl, by rw [show bitK (anyA (L.take 0)) 32 = 0 from bitK_zero fun j hj => rfl]; rfl, Below.refl _ _⟩
    case round =>
      obtain ⟨k, hk, rfl, rfl, hb⟩ := hrel
      have BW := Lib.hid hb
      clear hb
      by_cases hlt : k < L.length
      · obtain ⟨b, o, a, rfl, ha, c0, c1'⟩ := (R3.out.below ((below_drewN (Below.refl _ w2) m).trans BW.out) (Nat.le_refl _)).pt k hlt
        have hE := arcE_of (HO.out a (List.mem_of_getElem? ha.out))
        have C5 := Lib.hid (fun w => Points_any a w)
        rw [hE, show arcV a = (arcN a : Nat) from if_pos hE] at C5
        have hS := bit32 (anyA (L.take k))
        have hN := arcN_lt a
        have hd : bits .and .i64 ((bitK (anyA (L.take k)) 32 : Nat) : Int) ((arcN a : Nat) : Int) = 0 := by
          rw [i64_and_nat _ _ (by omega) (by omega), arcN_is, bitK_and, bitK_zero (fun j hj => HD.out k j a ha.out hj)]
          rfl
        have HNx := Lib.hid (show bitK (anyA (L.take (k + 1))) 32 = bitK (anyA (L.take k)) 32 + arcN a by
          rw [arcN_is, bitK_add (fun j hj => HD.out k j a ha.out hj)]
          exact bitK_congr fun j hj => anyA_next ha.out j)
        clear hE
        generalize arcN a = N at *
        generalize bitK (anyA (L.take k)) 32 = T at *
        obtain ⟨x0, y0⟩ := a
        unfold Pt.v at C5
        simp only at C5 c0 c1'
        go_wp2_with fail
        refine (C5.out wr).mono ?_
        rintro e w4 ⟨rfl, hb⟩
        have B4 := Lib.hid (BW.out.trans (hb.mono BW.out.size))
        clear hb c0 c1'
        go_wp2_with fail
        go_roundw
        case rel => exact ⟨k + 1, by omega, by go_num, by rw [HNx.out]; go_num, B4.out⟩
        case measure => simp [intOf]; omega
      · have hks : k = L.length := by omega
        subst hks
        have hl : bitK (anyA (L.take L.length)) 32 = x := by rw [List.take_length]; exact HA.out
        rw [hl]
        have B4 := Lib.hid (B3.out.trans (BW.out.mono B2.out.size))
        clear hl
        go_wp2_with fail
        refine (known_ok _ (HT.out.below' B4.out)).mono ?_
        rintro e w8 ⟨rfl, hb⟩
        go_wp2_with fail
        go_ret
        exact ⟨rfl, B4.out.trans (hb.mono B4.out.size)⟩
  · have h1 : setE n = 1 := if_neg h
    have h2 : arcsV n = [] := if_neg h
    rw [h1, h2] at C1 C2
    clear h h1 h2
    go_enter Tryd.func4, Tryd.ntmps4
    go_wp2_with fail
    refine (C1.out w).mono ?_
    rintro e w1 ⟨A1, c1, rfl, _, _, hr1, hb1⟩
    have B1 := Lib.hid hb1
    clear hb1 hr1
    go_wp2_with fail
    refine (C2.out w1).mono ?_
    rintro e w2 ⟨A2, c2, rfl, _, _, hr2, hb2⟩
    have B2 := Lib.hid (B1.out.trans (hb2.mono B1.out.size))
    clear hb2 hr2
    go_wp2_with fail
    refine (SameArcs_same A1 A2 c1 c2 [] _ _ w2 rfl rfl (.inl rfl) (.inl rfl) (by decide)).mono ?_
    rintro e w3 ⟨rfl, m, rfl⟩
    have B3 := Lib.hid (below_drewN B2.out m)
    go_wp2_with fail
    refine (known_ok _ (HT.out.below' B3.out)).mono ?_
    rintro e w8 ⟨rfl, hb⟩
    go_wp2_with fail
    go_ret
    exact ⟨rfl, B3.out.trans (hb.mono B3.out.size)⟩
end Go.Proofs.YtnnlbllkckakbaaDoor

/-
  The walk of the law WindAdds: it returns true. Condition: 'Tabs'.
-/
import Derived.Test.YtnnlbllkckakbaaDoorWi13
import Derived.Test.YtnnlbllkckakbaaDoorWi3
namespace Go.Proofs.YtnnlbllkckakbaaDoor
open Go.RowKit
set_option linter.unusedVariables false

theorem sumK_add {f g : Nat → Bool} {L : List Int} : ∀ {k : Nat}, (∀ j, j < k → (f j && g j) = false) → sumK f L k + sumK g L k = sumK (fun j => f j || g j) L k
  | 0, _ => rfl
  | k + 1, h => by
    have hk := h k (by omega)
    have ih2 := sumK_add (L := L) (k := k) fun j hj => h j (by omega)
    simp only [sumK, ← ih2]
    by_cases hf : f k = true <;> by_cases hg : g k = true <;> simp [hf, hg] at hk ⊢ <;> omega
/-- An arc in two parts. -/
theorem roS_parts {f w v : Nat} {L : List Int} (hf : f < 32) (hwv : w + v ≤ 32) : roS ⟨(f : Int), (w : Int)⟩ L + roS ⟨(((f + w) % 32 : Nat) : Int), (v : Int)⟩ L = roS ⟨(f : Int), ((w + v : Nat) : Int)⟩ L := by
  unfold roS
  rw [sumK_add]
  · refine sumK_congr fun j hj => ?_
    unfold hasN inArc
    simp only [Int.toNat_natCast]
    rw [Bool.eq_iff_iff, Bool.or_eq_true, decide_eq_true_eq, decide_eq_true_eq, decide_eq_true_eq]
    omega
  · intro j hj
    unfold hasN inArc
    simp only [Int.toNat_natCast]
    rw [Bool.and_eq_false_iff]
    by_cases h : (j + 32 - f) % 32 < w
    · right
      rw [decide_eq_false_iff_not]
      omega
    · left
      rw [decide_eq_false_iff_not]
      exact h
theorem roS_full (f : Nat) (hf : f < 32) (L : List Int) : roS ⟨(f : Int), 32⟩ L = roS ⟨0, 32⟩ L := by
  unfold roS
  refine sumK_congr fun j hj => ?_
  unfold hasN inArc
  rw [Bool.eq_iff_iff, decide_eq_true_eq, decide_eq_true_eq]
  simp only
  omega
theorem sumE_ok {a : Pt} {L : List Int} (h : (0 ≤ a.x ∧ a.x < 32) ∧ (1 ≤ a.y ∧ a.y ≤ 32)) (hr : roseB L = true) : sumE a L = 0 := by
  unfold sumE
  rw [if_pos (arcE_yes (by unfold okA; rw [Bool.and_eq_true, pt_iff, wd_iff]; exact h)), if_pos hr]
theorem sumV_ok {a : Pt} {L : List Int} (h : (0 ≤ a.x ∧ a.x < 32) ∧ (1 ≤ a.y ∧ a.y ≤ 32)) (hr : roseB L = true) : sumV a L = roS a L := if_pos (sumE_ok h hr)
/-- Where an arc is cut. -/
theorem cut_index (c : Int) (m : Nat) (hm : 0 < m) (hm2 : m < 32) : ∃ j : Nat, j < m ∧ wrap64 ((IntKind.u64.wrap c).tmod (m : Int)) = (j : Int) := by
  have h0 : 0 ≤ IntKind.u64.wrap c := by rw [IntKind.wrap_u64]; omega
  generalize IntKind.u64.wrap c = u at h0
  rw [Int.tmod_eq_emod_of_nonneg h0]
  have h1 : 0 ≤ u % (m : Int) := Int.emod_nonneg _ (by omega)
  have h2 : u % (m : Int) < (m : Int) := Int.emod_lt_of_pos _ (by omega)
  generalize u % (m : Int) = q at h1 h2
  exact ⟨q.toNat, by omega, by rw [IntWalk.wrap64_in q ⟨by omega, by omega⟩]; omega⟩
theorem Tryd.sizeRoseL : (Tryd.prog.info? 62).map (·.size) = some 32 := by kernel_rfl
theorem size_roseL {L : List Int} (h : Rose L) : (Tryd.prog.info? 62).map (·.size) = some (rv L).size := by rw [rv_size h]; exact Tryd.sizeRoseL
set_option maxHeartbeats 4000000 in
set_option maxRecDepth 100000 in
theorem WindAdds_walk (L : List Int) (a : Pt) (cut : Int) (w : World) (ht : Tabs w) (hL : Rose L) :
    Calls Tryd.prog 14 #[.agg (rv L), a.v, .int .i64 cut] w fun e w' => e = .returned (.bool true) ∧ Below w.heap.size w w' := by
  have HT := Lib.hid ht
  clear ht
  obtain ⟨W1, hW1, hblk1, hs1, hb1⟩ := one_blk w (rv L) 62
  obtain ⟨W2, hW2, h0, h1, hs2, hb2⟩ := one_pt W1 (.int .i64 a.x) (.int .i64 a.y) 23
  have BK := Lib.hid ((hb2.block _ hs1).trans hblk1)
  have F := Lib.hid (And.intro h0 (And.intro h1 hs2))
  have B2 := Lib.hid (hb1.trans (hb2.mono hb1.size))
  have HS := Lib.hid (fun a w => Sum_any L a w hL)
  have HSz := Lib.hid (size_roseL hL)
  clear hblk1 hs1 hb1 hs2 hb2
  by_cases hok : (0 ≤ a.x ∧ a.x < 32) ∧ (1 ≤ a.y ∧ a.y ≤ 32)
  · by_cases hr : roseB L = true
    · obtain ⟨x, y⟩ := a
      simp only at hok
      obtain ⟨f, rfl⟩ := Int.eq_ofNat_of_zero_le hok.1.1
      obtain ⟨g, rfl⟩ := Int.eq_ofNat_of_zero_le (show 0 ≤ y by omega)
      have hf : f < 32 := by omega
      have hg : 1 ≤ g ∧ g ≤ 32 := by omega
      have C1 := Lib.hid (fun w => HS.out ⟨0, 32⟩ w)
      have C2 := Lib.hid (fun w => HS.out ⟨(f : Int), (g : Int)⟩ w)
      rw [sumE_ok (by decide) hr, sumV_ok (by decide) hr] at C1
      rw [sumE_ok hok hr, sumV_ok hok hr] at C2
      unfold Pt.v at *
      simp only at C1 C2 hW2 h0 h1 F ⊢
      have K2 := Lib.hid (And.intro F.out.1 F.out.2.1)
      have L2 := Lib.hid F.out.2.2
      have BK2 := Lib.hid BK.out
      have le1 := roS_le (a := ⟨0, 32⟩) hr
      have le2 := roS_le (a := ⟨(f : Int), (g : Int)⟩) hr
      have HP := Lib.hid (fun f w v h1 h2 => roS_parts (L := L) (f := f) (w := w) (v := v) h1 h2)
      have HFu := Lib.hid (fun f h => roS_full f h L)
      have HLe := Lib.hid (fun a => roS_le (a := a) hr)
      have HE := Lib.hid (fun a h => sumE_ok (a := a) (L := L) h hr)
      have HV := Lib.hid (fun a h => sumV_ok (a := a) (L := L) h hr)
      have HG := Lib.hid (fun x y (h : (0 ≤ x ∧ x < 32) ∧ (1 ≤ y ∧ y ≤ 32)) w => show Calls Tryd.prog 52 #[.agg (rv L), .agg #[.int .i64 x, .int .i64 y]] w fun e w' => e = .returned (.tuple #[.int .i64 (roS ⟨x, y⟩ L), .int .i64 0]) ∧ Below w.heap.size w w' from by
        have h2 := HS.out ⟨x, y⟩ w
        rw [HE.out ⟨x, y⟩ h, HV.out ⟨x, y⟩ h] at h2
        exact h2)
      clear hok hr HS
      go_enter Tryd.func14, Tryd.ntmps14
      go_wp2_with (refine wpList_load_row rfl 62 (.tmp 3) rfl w.heap.size rfl _ _ _ _ BK2.out Tryd.underlying62 rfl HSz.out ?_)
      clear hW1 hW2 h0 h1
      have ka := K2.out.1
      have kb := K2.out.2
      refine (C1.out W2).mono ?_
      rintro e w3 ⟨rfl, hb⟩
      have BK3 := Lib.hid ((hb.block _ (lt_of_block BK2.out)).trans BK2.out)
      have K3 := Lib.hid (pt_keep (And.intro K2.out.1 (And.intro K2.out.2 L2.out)) hb)
      have L3 := Lib.hid (World.block_lt_of_cell? w3 _ K3.out.1)
      have B3 := Lib.hid (B2.out.trans (hb.mono B2.out.size))
      clear hb ka kb
      have ka := K3.out.1
      have kb := K3.out.2
      go_wp2_with (refine wpList_load_row rfl 62 (.tmp 3) rfl w.heap.size rfl _ _ _ _ BK3.out Tryd.underlying62 rfl HSz.out ?_)
      refine (C2.out w3).mono ?_
      rintro e w4 ⟨rfl, hb⟩
      have BK4 := Lib.hid ((hb.block _ (lt_of_block BK3.out)).trans BK3.out)
      have K4 := Lib.hid (pt_keep (And.intro K3.out.1 (And.intro K3.out.2 L3.out)) hb)
      have L4 := Lib.hid (World.block_lt_of_cell? w4 _ K4.out.1)
      have B4 := Lib.hid (B3.out.trans (hb.mono B3.out.size))
      clear hb ka kb
      have ka := K4.out.1
      have kb := K4.out.2
      by_cases h32 : g = 32
      · have bg : ¬ (g : Int) < 32 := by omega
        have bg2 : ¬ (g : Int) < 2 := by omega
        clear h32
        obtain ⟨j, hj, hjw⟩ := cut_index cut (g - 1) (by omega) (by omega)
        have em : (((g - 1 : Nat)) : Int) = (g : Int) - 1 := by omega
        rw [em] at hjw
        have e5 : IntKind.u64.wrap ((g : Int) - 1) = (g : Int) - 1 := by rw [IntKind.wrap_u64]; omega
        have b5 : 1 ≤ (g : Int) - 1 := by omega
        have hsum : roS ⟨(f : Int), 1 + (j : Int)⟩ L + roS ⟨((f : Int) + (1 + (j : Int))) % 32, (g : Int) - (1 + (j : Int))⟩ L = roS ⟨(f : Int), (g : Int)⟩ L := by
          have h := HP.out f (1 + j) (g - (1 + j)) hf (by omega)
          rw [show (((f + (1 + j)) % 32 : Nat) : Int) = ((f : Int) + (1 + (j : Int))) % 32 by omega, show ((1 + j : Nat) : Int) = 1 + (j : Int) by omega, show ((g - (1 + j) : Nat) : Int) = (g : Int) - (1 + (j : Int)) by omega, show ((1 + j + (g - (1 + j)) : Nat) : Int) = (g : Int) by omega] at h
          exact h
        have C4 := Lib.hid (fun w => HG.out (f : Int) (1 + (j : Int)) (by omega) w)
        have C5 := Lib.hid (fun w => HG.out (((f : Int) + (1 + (j : Int))) % 32) ((g : Int) - (1 + (j : Int))) (by omega) w)
        have le4 := HLe.out ⟨(f : Int), 1 + (j : Int)⟩
        have le5 := HLe.out ⟨((f : Int) + (1 + (j : Int))) % 32, (g : Int) - (1 + (j : Int))⟩
        have bj : (j : Int) < (g : Int) - 1 := by omega
        generalize roS ⟨(f : Int), 1 + (j : Int)⟩ L = X4 at *
        generalize roS ⟨((f : Int) + (1 + (j : Int))) % 32, (g : Int) - (1 + (j : Int))⟩ L = X5 at *
        generalize roS ⟨(f : Int), (g : Int)⟩ L = N at *
        clear em
        go_wp2_with (refine wpList_load_row rfl 62 (.tmp 3) rfl w.heap.size rfl _ _ _ _ BK4.out Tryd.underlying62 rfl HSz.out ?_)
        refine (C4.out w4).mono ?_
        rintro e w6 ⟨rfl, hb⟩
        have BK6 := Lib.hid ((hb.block _ (lt_of_block BK4.out)).trans BK4.out)
        have K6 := Lib.hid (pt_keep (And.intro K4.out.1 (And.intro K4.out.2 L4.out)) hb)
        have L6 := Lib.hid (World.block_lt_of_cell? w6 _ K6.out.1)
        have B6 := Lib.hid (B4.out.trans (hb.mono B4.out.size))
        clear hb ka kb
        have ka := K6.out.1
        have kb := K6.out.2
        go_wp2_with (refine wpList_load_row rfl 62 (.tmp 3) rfl w.heap.size rfl _ _ _ _ BK6.out Tryd.underlying62 rfl HSz.out ?_)
        refine (C5.out w6).mono ?_
        rintro e w7 ⟨rfl, hb⟩
        have BK7 := Lib.hid ((hb.block _ (lt_of_block BK6.out)).trans BK6.out)
        have K7 := Lib.hid (pt_keep (And.intro K6.out.1 (And.intro K6.out.2 L6.out)) hb)
        have L7 := Lib.hid (World.block_lt_of_cell? w7 _ K7.out.1)
        have B7 := Lib.hid (B6.out.trans (hb.mono B6.out.size))
        clear hb ka kb
        have ka := K7.out.1
        have kb := K7.out.2
        go_wp2_with fail
        refine (known_ok _ (HT.out.below' B7.out)).mono ?_
        rintro e w8 ⟨rfl, hb⟩
        go_wp2_with fail
        go_ret
        exact ⟨rfl, B7.out.trans (hb.mono B7.out.size)⟩
      · have bg : (g : Int) < 32 := by omega
        have hsum2 : roS ⟨(f : Int), (g : Int)⟩ L + roS ⟨((f : Int) + (g : Int)) % 32, 32 - (g : Int)⟩ L = roS ⟨0, 32⟩ L := by
          have h := HP.out f g (32 - g) hf (by omega)
          rw [show (((f + g) % 32 : Nat) : Int) = ((f : Int) + (g : Int)) % 32 by omega, show ((32 - g : Nat) : Int) = 32 - (g : Int) by omega, show ((g + (32 - g) : Nat) : Int) = 32 by omega, HFu.out f hf] at h
          exact h
        have C3 := Lib.hid (fun w => HG.out (((f : Int) + (g : Int)) % 32) (32 - (g : Int)) (by omega) w)
        have le3 := HLe.out ⟨((f : Int) + (g : Int)) % 32, 32 - (g : Int)⟩
        generalize roS ⟨((f : Int) + (g : Int)) % 32, 32 - (g : Int)⟩ L = X3 at *
        generalize roS ⟨0, 32⟩ L = AL at *
        go_wp2_with (refine wpList_load_row rfl 62 (.tmp 3) rfl w.heap.size rfl _ _ _ _ BK4.out Tryd.underlying62 rfl HSz.out ?_)
        refine (C3.out w4).mono ?_
        rintro e w5 ⟨rfl, hb⟩
        have BK5 := Lib.hid ((hb.block _ (lt_of_block BK4.out)).trans BK4.out)
        have K5 := Lib.hid (pt_keep (And.intro K4.out.1 (And.intro K4.out.2 L4.out)) hb)
        have L5 := Lib.hid (World.block_lt_of_cell? w5 _ K5.out.1)
        have B5 := Lib.hid (B4.out.trans (hb.mono B4.out.size))
        clear hb ka kb
        have ka := K5.out.1
        have kb := K5.out.2
        by_cases h1g : g < 2
        · have bg2 : (g : Int) < 2 := by omega
          clear h1g
          go_wp2_with fail
          refine (known_ok _ (HT.out.below' B5.out)).mono ?_
          rintro e w8 ⟨rfl, hb⟩
          go_wp2_with fail
          go_ret
          exact ⟨rfl, B5.out.trans (hb.mono B5.out.size)⟩
        · have bg2 : ¬ (g : Int) < 2 := by omega
          obtain ⟨j, hj, hjw⟩ := cut_index cut (g - 1) (by omega) (by omega)
          have em : (((g - 1 : Nat)) : Int) = (g : Int) - 1 := by omega
          rw [em] at hjw
          have e5 : IntKind.u64.wrap ((g : Int) - 1) = (g : Int) - 1 := by rw [IntKind.wrap_u64]; omega
          have b5 : 1 ≤ (g : Int) - 1 := by omega
          have hsum : roS ⟨(f : Int), 1 + (j : Int)⟩ L + roS ⟨((f : Int) + (1 + (j : Int))) % 32, (g : Int) - (1 + (j : Int))⟩ L = roS ⟨(f : Int), (g : Int)⟩ L := by
            have h := HP.out f (1 + j) (g - (1 + j)) hf (by omega)
            rw [show (((f + (1 + j)) % 32 : Nat) : Int) = ((f : Int) + (1 + (j : Int))) % 32 by omega, show ((1 + j : Nat) : Int) = 1 + (j : Int) by omega, show ((g - (1 + j) : Nat) : Int) = (g : Int) - (1 + (j : Int)) by omega, show ((1 + j + (g - (1 + j)) : Nat) : Int) = (g : Int) by omega] at h
            exact h
          have C4 := Lib.hid (fun w => HG.out (f : Int) (1 + (j : Int)) (by omega) w)
          have C5 := Lib.hid (fun w => HG.out (((f : Int) + (1 + (j : Int))) % 32) ((g : Int) - (1 + (j : Int))) (by omega) w)
          have le4 := HLe.out ⟨(f : Int), 1 + (j : Int)⟩
          have le5 := HLe.out ⟨((f : Int) + (1 + (j : Int))) % 32, (g : Int) - (1 + (j : Int))⟩
          have bj : (j : Int) < (g : Int) - 1 := by omega
          generalize roS ⟨(f : Int), 1 + (j : Int)⟩ L = X4 at *
          generalize roS ⟨((f : Int) + (1 + (j : Int))) % 32, (g : Int) - (1 + (j : Int))⟩ L = X5 at *
          generalize roS ⟨(f : Int), (g : Int)⟩ L = N at *
          clear em
          go_wp2_with (refine wpList_load_row rfl 62 (.tmp 3) rfl w.heap.size rfl _ _ _ _ BK5.out Tryd.underlying62 rfl HSz.out ?_)
          refine (C4.out w5).mono ?_
          rintro e w6 ⟨rfl, hb⟩
          have BK6 := Lib.hid ((hb.block _ (lt_of_block BK5.out)).trans BK5.out)
          have K6 := Lib.hid (pt_keep (And.intro K5.out.1 (And.intro K5.out.2 L5.out)) hb)
          have L6 := Lib.hid (World.block_lt_of_cell? w6 _ K6.out.1)
          have B6 := Lib.hid (B5.out.trans (hb.mono B5.out.size))
          clear hb ka kb
          have ka := K6.out.1
          have kb := K6.out.2
          go_wp2_with (refine wpList_load_row rfl 62 (.tmp 3) rfl w.heap.size rfl _ _ _ _ BK6.out Tryd.underlying62 rfl HSz.out ?_)
          refine (C5.out w6).mono ?_
          rintro e w7 ⟨rfl, hb⟩
          have BK7 := Lib.hid ((hb.block _ (lt_of_block BK6.out)).trans BK6.out)
          have K7 := Lib.hid (pt_keep (And.intro K6.out.1 (And.intro K6.out.2 L6.out)) hb)
          have L7 := Lib.hid (World.block_lt_of_cell? w7 _ K7.out.1)
          have B7 := Lib.hid (B6.out.trans (hb.mono B6.out.size))
          clear hb ka kb
          have ka := K7.out.1
          have kb := K7.out.2
          go_wp2_with fail
          refine (known_ok _ (HT.out.below' B7.out)).mono ?_
          rintro e w8 ⟨rfl, hb⟩
          go_wp2_with fail
          go_ret
          exact ⟨rfl, B7.out.trans (hb.mono B7.out.size)⟩
    · have hE : ¬ sumE ⟨0, 32⟩ L = 0 := fun h => hr (sumE_zero h).2
      have C1 := Lib.hid (fun w => HS.out ⟨0, 32⟩ w)
      have C2 := Lib.hid (fun w => HS.out a w)
      have K2 := Lib.hid (And.intro F.out.1 F.out.2.1)
      have L2 := Lib.hid F.out.2.2
      have BK2 := Lib.hid BK.out
      generalize sumE ⟨0, 32⟩ L = E1 at *
      generalize sumV ⟨0, 32⟩ L = V1 at *
      generalize sumE a L = E2 at *
      generalize sumV a L = V2 at *
      have he1 : (E1 == 0) = false := by simpa using hE
      have he2 : (E1 != 0) = true := by simpa using hE
      clear hE hr hok HS
      obtain ⟨x, y⟩ := a
      unfold Pt.v at *
      simp only at C1 C2 hW2 h0 h1 F ⊢
      go_enter Tryd.func14, Tryd.ntmps14
      go_wp2_with (refine wpList_load_row rfl 62 (.tmp 3) rfl w.heap.size rfl _ _ _ _ BK2.out Tryd.underlying62 rfl HSz.out ?_)
      clear hW1 hW2 h0 h1
      have ka := K2.out.1
      have kb := K2.out.2
      refine (C1.out W2).mono ?_
      rintro e w3 ⟨rfl, hb⟩
      have BK3 := Lib.hid ((hb.block _ (lt_of_block BK2.out)).trans BK2.out)
      have K3 := Lib.hid (pt_keep (And.intro K2.out.1 (And.intro K2.out.2 L2.out)) hb)
      have L3 := Lib.hid (World.block_lt_of_cell? w3 _ K3.out.1)
      have B3 := Lib.hid (B2.out.trans (hb.mono B2.out.size))
      clear hb ka kb
      have ka := K3.out.1
      have kb := K3.out.2
      go_wp2_with (refine wpList_load_row rfl 62 (.tmp 3) rfl w.heap.size rfl _ _ _ _ BK3.out Tryd.underlying62 rfl HSz.out ?_)
      refine (C2.out w3).mono ?_
      rintro e w4 ⟨rfl, hb⟩
      have BK4 := Lib.hid ((hb.block _ (lt_of_block BK3.out)).trans BK3.out)
      have K4 := Lib.hid (pt_keep (And.intro K3.out.1 (And.intro K3.out.2 L3.out)) hb)
      have L4 := Lib.hid (World.block_lt_of_cell? w4 _ K4.out.1)
      have B4 := Lib.hid (B3.out.trans (hb.mono B3.out.size))
      clear hb ka kb
      have ka := K4.out.1
      have kb := K4.out.2
      go_wp2_with fail
      refine (known_ok _ (HT.out.below' B4.out)).mono ?_
      rintro e w8 ⟨rfl, hb⟩
      go_wp2_with fail
      go_ret
      exact ⟨rfl, B4.out.trans (hb.mono B4.out.size)⟩
  · have hE : ¬ sumE a L = 0 := fun h => hok (by
      have h2 := (sumE_zero h).1
      unfold arcE at h2
      split at h2
      · rename_i h3
        rw [Bool.and_eq_true, pt_iff, wd_iff] at h3
        exact h3
      · cases h2)
    have C1 := Lib.hid (fun w => HS.out ⟨0, 32⟩ w)
    have C2 := Lib.hid (fun w => HS.out a w)
    have K2 := Lib.hid (And.intro F.out.1 F.out.2.1)
    have L2 := Lib.hid F.out.2.2
    have BK2 := Lib.hid BK.out
    generalize sumV ⟨0, 32⟩ L = V1 at *
    generalize sumE a L = E2 at *
    generalize sumV a L = V2 at *
    have he1 : (E2 == 0) = false := by simpa using hE
    have he2 : (E2 != 0) = true := by simpa using hE
    clear hE hok HS
    obtain ⟨E1, hE1⟩ : ∃ E1, sumE ⟨0, 32⟩ L = E1 := ⟨_, rfl⟩
    rw [hE1] at C1
    clear hE1
    by_cases h3 : E1 = 0
    · subst h3
      obtain ⟨x, y⟩ := a
      unfold Pt.v at *
      simp only at C1 C2 hW2 h0 h1 F ⊢
      go_enter Tryd.func14, Tryd.ntmps14
      go_wp2_with (refine wpList_load_row rfl 62 (.tmp 3) rfl w.heap.size rfl _ _ _ _ BK2.out Tryd.underlying62 rfl HSz.out ?_)
      clear hW1 hW2 h0 h1
      have ka := K2.out.1
      have kb := K2.out.2
      refine (C1.out W2).mono ?_
      rintro e w3 ⟨rfl, hb⟩
      have BK3 := Lib.hid ((hb.block _ (lt_of_block BK2.out)).trans BK2.out)
      have K3 := Lib.hid (pt_keep (And.intro K2.out.1 (And.intro K2.out.2 L2.out)) hb)
      have L3 := Lib.hid (World.block_lt_of_cell? w3 _ K3.out.1)
      have B3 := Lib.hid (B2.out.trans (hb.mono B2.out.size))
      clear hb ka kb
      have ka := K3.out.1
      have kb := K3.out.2
      go_wp2_with (refine wpList_load_row rfl 62 (.tmp 3) rfl w.heap.size rfl _ _ _ _ BK3.out Tryd.underlying62 rfl HSz.out ?_)
      refine (C2.out w3).mono ?_
      rintro e w4 ⟨rfl, hb⟩
      have BK4 := Lib.hid ((hb.block _ (lt_of_block BK3.out)).trans BK3.out)
      have K4 := Lib.hid (pt_keep (And.intro K3.out.1 (And.intro K3.out.2 L3.out)) hb)
      have L4 := Lib.hid (World.block_lt_of_cell? w4 _ K4.out.1)
      have B4 := Lib.hid (B3.out.trans (hb.mono B3.out.size))
      clear hb ka kb
      have ka := K4.out.1
      have kb := K4.out.2
      go_wp2_with fail
      refine (known_ok _ (HT.out.below' B4.out)).mono ?_
      rintro e w8 ⟨rfl, hb⟩
      go_wp2_with fail
      go_ret
      exact ⟨rfl, B4.out.trans (hb.mono B4.out.size)⟩
    · have he3 : (E1 == 0) = false := by simpa using h3
      have he4 : (E1 != 0) = true := by simpa using h3
      clear h3
      obtain ⟨x, y⟩ := a
      unfold Pt.v at *
      simp only at C1 C2 hW2 h0 h1 F ⊢
      go_enter Tryd.func14, Tryd.ntmps14
      go_wp2_with (refine wpList_load_row rfl 62 (.tmp 3) rfl w.heap.size rfl _ _ _ _ BK2.out Tryd.underlying62 rfl HSz.out ?_)
      clear hW1 hW2 h0 h1
      have ka := K2.out.1
      have kb := K2.out.2
      refine (C1.out W2).mono ?_
      rintro e w3 ⟨rfl, hb⟩
      have BK3 := Lib.hid ((hb.block _ (lt_of_block BK2.out)).trans BK2.out)
      have K3 := Lib.hid (pt_keep (And.intro K2.out.1 (And.intro K2.out.2 L2.out)) hb)
      have L3 := Lib.hid (World.block_lt_of_cell? w3 _ K3.out.1)
      have B3 := Lib.hid (B2.out.trans (hb.mono B2.out.size))
      clear hb ka kb
      have ka := K3.out.1
      have kb := K3.out.2
      go_wp2_with (refine wpList_load_row rfl 62 (.tmp 3) rfl w.heap.size rfl _ _ _ _ BK3.out Tryd.underlying62 rfl HSz.out ?_)
      refine (C2.out w3).mono ?_
      rintro e w4 ⟨rfl, hb⟩
      have BK4 := Lib.hid ((hb.block _ (lt_of_block BK3.out)).trans BK3.out)
      have K4 := Lib.hid (pt_keep (And.intro K3.out.1 (And.intro K3.out.2 L3.out)) hb)
      have L4 := Lib.hid (World.block_lt_of_cell? w4 _ K4.out.1)
      have B4 := Lib.hid (B3.out.trans (hb.mono B3.out.size))
      clear hb ka kb
      have ka := K4.out.1
      have kb := K4.out.2
      go_wp2_with fail
      refine (known_ok _ (HT.out.below' B4.out)).mono ?_
      rintro e w8 ⟨rfl, hb⟩
      go_wp2_with fail
      go_ret
      exact ⟨rfl, B4.out.trans (hb.mono B4.out.size)⟩
end Go.Proofs.YtnnlbllkckakbaaDoor

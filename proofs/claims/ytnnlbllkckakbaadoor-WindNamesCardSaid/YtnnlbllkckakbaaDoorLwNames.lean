/-
  The walks of Point of package wind, of Name and Point of the reference, and of the law WindNames: it returns true. Condition: 'Tabs'.
-/
import Derived.Test.YtnnlbllkckakbaaDoorWi6
import Derived.Test.YtnnlbllkckakbaaDoorIdx
namespace Go.Proofs.YtnnlbllkckakbaaDoor
open Go.RowKit
set_option linter.unusedVariables false

theorem toList_inj {s t : ByteArray} (h : s.toList = t.toList) : s = t := by
  rw [ByteArray.toList_eq, ByteArray.toList_eq] at h
  obtain ⟨⟨a⟩⟩ := s
  obtain ⟨⟨b⟩⟩ := t
  simp at h
  rw [h]
theorem toList_beq (s t : ByteArray) : (s.toList == t.toList) = decide (s = t) := by
  by_cases h : s = t
  · simp [h]
  · have : ¬ s.toList = t.toList := fun e => h (toList_inj e)
    simp [h, this]
/-- The point of a name: the first one that has it. -/
def poK (s : ByteArray) (k : Nat) : Option Nat := (List.range k).find? fun j => decide (nm j = s)
def poV (s : ByteArray) : Int := match poK s 32 with
  | some j => (j : Int)
  | none => 0
def poE (s : ByteArray) : Int := match poK s 32 with
  | some _ => 0
  | none => 2
theorem poK_hit {s : ByteArray} {k : Nat} (hk : k < 32) (h : ∀ j, j < k → ((nm j).toList == s.toList) = false) (he : ((nm k).toList == s.toList) = true) : poV s = k ∧ poE s = 0 := by
  have e : poK s 32 = some k := by
    unfold poK
    rw [List.find?_range_eq_some]
    refine ⟨by rw [← toList_beq]; exact he, by simpa using hk, fun j hj => ?_⟩
    rw [← toList_beq, h j hj]
    rfl
  unfold poV poE
  rw [e]
  exact ⟨rfl, rfl⟩
theorem poK_miss {s : ByteArray} (h : ∀ j, j < 32 → ((nm j).toList == s.toList) = false) : poV s = 0 ∧ poE s = 2 := by
  have e : poK s 32 = none := by
    unfold poK
    rw [List.find?_eq_none]
    intro j hj
    rw [← toList_beq, h j (List.mem_range.1 hj)]
    simp
  unfold poV poE
  rw [e]
  exact ⟨rfl, rfl⟩
theorem nm_back : ∀ i : Fin 32, poV (nm i.val) = i.val ∧ poE (nm i.val) = 0 := by decide +kernel
theorem Point_any (s : ByteArray) (w : World) (ht : Tabs w) : Calls Tryd.prog 33 #[.string s] w fun e w' => e = .returned (.tuple #[.int .i64 (poV s), .int .i64 (poE s)]) ∧ w = w' := by
  have HT := Lib.hid ht
  clear ht
  go_enter Tryd.func33, Tryd.ntmps33
  go_wp2_with fail
  go_loop [5] (fun i => ∃ k : Nat, k ≤ 32 ∧ i = .int .i64 k ∧ ∀ j, j < k → ((nm j).toList == s.toList) = false) (fun i => 32 - (intOf i).toNat)
  case atStart => exact ⟨0, by omega, rfl, fun j hj => by omega⟩
  case round =>
    obtain ⟨k, hk, rfl, hall⟩ := hrel
    have HA := Lib.hid hall
    clear hall
    by_cases hlt : k < 32
    · have hc := HT.out.tab k hlt
      cases hb : ((nm k).toList == s.toList)
      · have HN := Lib.hid (show ∀ j, j < k + 1 → ((nm j).toList == s.toList) = false from fun j hj => by
          rcases Nat.lt_or_ge j k with h | h
          · exact HA.out j h
          · obtain rfl : j = k := by omega
            exact hb)
        go_wp2_with fail
        go_round
        case rel => exact ⟨k + 1, by omega, by go_num, HN.out⟩
        case measure => simp [intOf]; omega
      · have HP := Lib.hid (poK_hit hlt HA.out hb)
        go_wp2_with fail
        go_ret2
        exact ⟨by rw [HP.out.1, HP.out.2]; rfl, rfl⟩
    · obtain rfl : k = 32 := by omega
      have HP := Lib.hid (poK_miss HA.out)
      go_wp2_with fail
      go_ret2
      exact ⟨by rw [HP.out.1, HP.out.2]; rfl, rfl⟩
set_option maxRecDepth 4000 in
theorem rName_any (n : Int) (w : World) : Calls Tryd.prog 32 #[.int .i64 n] w fun e w' => e = .returned (.tuple #[.string (nmV n), .int .i64 (nmE n)]) ∧ Below w.heap.size w w' := by
  have HX := Lib.hid (fun w => risPoint_any n w)
  have HN := Lib.hid (fun w => names_any w)
  unfold nmV nmE
  by_cases hp : pt n = true
  · rw [if_pos hp, if_pos hp]
    rw [hp] at HX
    rw [pt_iff] at hp
    obtain ⟨h0, h1⟩ := hp
    obtain ⟨p, rfl⟩ := Int.eq_ofNat_of_zero_le h0
    have hp32 : p < 32 := by omega
    have hu : (upS 32)[p]? = some (.string (nm p)) := by rw [upS_at hp32, if_pos hp32]
    obtain ⟨i0, hi0, hz0⟩ : ∃ i, Tryd.prog.info? 9 = some i ∧ i.size = 1 := ⟨_, rfl, rfl⟩
    have hI := fun w => run_index_arr (P := Tryd.prog) Tryd.underlying82 Tryd.underlying9 rfl hi0 hz0 hp32 hu w
    clear hi0 hz0 i0 hu
    rw [Int.toNat_natCast]
    generalize upS 32 = U at *
    generalize nm p = s at *
    go_enter Tryd.func32, Tryd.ntmps32
    go_wp2_with fail
    refine (HX.out w).mono ?_
    rintro e w' ⟨rfl, rfl⟩
    go_wp2_with fail
    refine (HN.out w).mono ?_
    rintro e w1 ⟨rfl, hb⟩
    have B1 := Lib.hid hb
    clear hb
    go_wp2_with fail
    go_ret2
    exact ⟨rfl, B1.out⟩
  · rw [if_neg hp, if_neg hp]
    rw [Bool.not_eq_true] at hp
    rw [hp] at HX
    clear hp
    go_enter Tryd.func32, Tryd.ntmps32
    go_wp2_with fail
    refine (HX.out w).mono ?_
    rintro e w' ⟨rfl, rfl⟩
    go_wp2_with fail
    go_ret2
    exact ⟨rfl, Below.refl _ _⟩
theorem rPoint_any (s : ByteArray) (w : World) : Calls Tryd.prog 34 #[.string s] w fun e w' => e = .returned (.tuple #[.int .i64 (poV s), .int .i64 (poE s)]) ∧ Below w.heap.size w w' := by
  have HN := Lib.hid (fun w => names_any w)
  go_enter Tryd.func34, Tryd.ntmps34
  go_wp2_with fail
  refine (HN.out w).mono ?_
  rintro e w1 ⟨rfl, hb⟩
  have B1 := Lib.hid hb
  clear hb
  obtain ⟨W1, hW1, hblk, hs1, hb1⟩ := one_blk w1 (upS 0) 82
  have R1 := Lib.hid hblk
  have B2 := Lib.hid (B1.out.trans ((below_setRow hb1 (Nat.le_refl _) (upS 32)).mono B1.out.size))
  have R2 := Lib.hid (setRow_heap W1 _ _ (upS 32) _ _ hblk)
  rw [upS_zero] at hW1
  clear hblk hs1 hb1
  go_wp2_with (refine wpList_store_row rfl 82 (.tmp 4) (.tmp 6) rfl w1.heap.size _ rfl rfl _ _ R1.out (size_strs _) (by rw [upS_size, upS_size]) (by simp [upS, Value.oneCell']) ?_)
  clear hW1
  generalize W1.setRow w1.heap.size (upS 32) = W2 at *
  go_loop [5] (fun i => ∃ k : Nat, k ≤ 32 ∧ i = .int .i64 k ∧ ∀ j, j < k → ((nm j).toList == s.toList) = false) (fun i => 32 - (intOf i).toNat)
  case atStart => exact ⟨0, by omega, rfl, fun j hj => by omega⟩
  case round =>
    obtain ⟨k, hk, rfl, hall⟩ := hrel
    have HA := Lib.hid hall
    clear hall
    by_cases hlt : k < 32
    · have hc : W2.cell? ⟨w1.heap.size, k, none⟩ = some (.string (nm k)) := by rw [blk_cell R2.out, upS_at hlt, if_pos hlt]
      cases hb : ((nm k).toList == s.toList)
      · have HN := Lib.hid (show ∀ j, j < k + 1 → ((nm j).toList == s.toList) = false from fun j hj => by
          rcases Nat.lt_or_ge j k with h | h
          · exact HA.out j h
          · obtain rfl : j = k := by omega
            exact hb)
        go_wp2_with fail
        go_round
        case rel => exact ⟨k + 1, by omega, by go_num, HN.out⟩
        case measure => simp [intOf]; omega
      · have HP := Lib.hid (poK_hit hlt HA.out hb)
        go_wp2_with fail
        go_ret2
        exact ⟨by rw [HP.out.1, HP.out.2]; rfl, B2.out⟩
    · obtain rfl : k = 32 := by omega
      have HP := Lib.hid (poK_miss HA.out)
      go_wp2_with fail
      go_ret2
      exact ⟨by rw [HP.out.1, HP.out.2]; rfl, B2.out⟩
theorem WindNames_walk (n : Int) (s : ByteArray) (w : World) (ht : Tabs w) (hs : s.size ≤ 9223372036854775807) :
    Calls Tryd.prog 7 #[.int .i64 n, .string s] w fun e w' => e = .returned (.bool true) ∧ Below w.heap.size w w' := by
  have HT := Lib.hid ht
  clear ht
  by_cases hl : (100 : Int) < (s.size : Int)
  · have hl' : decide ((100 : Int) < (s.size : Int)) = true := by simp; omega
    go_enter Tryd.func7, Tryd.ntmps7
    go_wp2_with fail
    refine (known_ok w HT.out).mono ?_
    rintro e w1 ⟨rfl, hb⟩
    have B1 := Lib.hid hb
    clear hb
    go_wp2_with fail
    go_ret
    exact ⟨rfl, B1.out⟩
  have hl' : decide ((100 : Int) < (s.size : Int)) = false := by simp; omega
  have C1 := Lib.hid (fun w h => Name_any n w h)
  have C2 := Lib.hid (fun w => rName_any n w)
  have C3 := Lib.hid (fun w h => Point_any s w h)
  have C4 := Lib.hid (fun w => rPoint_any s w)
  have C5 := Lib.hid (fun w h => Point_any (nmV n) w h)
  by_cases hp : pt n = true
  · have hE : nmE n = 0 := if_pos hp
    rw [pt_iff] at hp
    obtain ⟨p, hp2⟩ := Int.eq_ofNat_of_zero_le hp.1
    have hV : nmV n = nm p := by unfold nmV; rw [if_pos (pt_iff.2 hp), hp2]; rfl
    have hb := nm_back ⟨p, by omega⟩
    simp only at hb
    rw [hV, hb.1, hb.2, ← hp2] at C5
    rw [hV, hE] at C1 C2
    clear hE hV hb hp hp2
    generalize nm p = a at *
    generalize poV s = V at *
    generalize poE s = E at *
    go_enter Tryd.func7, Tryd.ntmps7
    go_wp2_with fail
    refine (C1.out w HT.out).mono ?_
    rintro e w' ⟨rfl, rfl⟩
    go_wp2_with fail
    refine (C2.out w).mono ?_
    rintro e w1 ⟨rfl, hb⟩
    have B1 := Lib.hid hb
    clear hb
    have HT1 := Lib.hid (HT.out.below' B1.out)
    go_wp2_with fail
    refine (C3.out w1 HT1.out).mono ?_
    rintro e w' ⟨rfl, rfl⟩
    go_wp2_with fail
    refine (C4.out w1).mono ?_
    rintro e w2 ⟨rfl, hb⟩
    have B2 := Lib.hid (B1.out.trans (hb.mono B1.out.size))
    clear hb
    have HT2 := Lib.hid (HT.out.below' B2.out)
    go_wp2_with fail
    refine (C5.out w2 HT2.out).mono ?_
    rintro e w' ⟨rfl, rfl⟩
    go_wp2_with fail
    refine (known_ok w2 HT2.out).mono ?_
    rintro e w3 ⟨rfl, hb⟩
    have B3 := Lib.hid (B2.out.trans (hb.mono B2.out.size))
    clear hb
    go_wp2_with fail
    go_ret
    exact ⟨rfl, B3.out⟩
  · have hE : nmE n = 1 := if_neg hp
    rw [hE] at C1 C2
    clear hE hp
    generalize poV (nmV n) = V2 at *
    generalize poE (nmV n) = E2 at *
    generalize nmV n = a at *
    generalize poV s = V at *
    generalize poE s = E at *
    go_enter Tryd.func7, Tryd.ntmps7
    go_wp2_with fail
    refine (C1.out w HT.out).mono ?_
    rintro e w' ⟨rfl, rfl⟩
    go_wp2_with fail
    refine (C2.out w).mono ?_
    rintro e w1 ⟨rfl, hb⟩
    have B1 := Lib.hid hb
    clear hb
    have HT1 := Lib.hid (HT.out.below' B1.out)
    go_wp2_with fail
    refine (C3.out w1 HT1.out).mono ?_
    rintro e w' ⟨rfl, rfl⟩
    go_wp2_with fail
    refine (C4.out w1).mono ?_
    rintro e w2 ⟨rfl, hb⟩
    have B2 := Lib.hid (B1.out.trans (hb.mono B1.out.size))
    clear hb
    have HT2 := Lib.hid (HT.out.below' B2.out)
    go_wp2_with fail
    refine (C5.out w2 HT2.out).mono ?_
    rintro e w' ⟨rfl, rfl⟩
    go_wp2_with fail
    refine (known_ok w2 HT2.out).mono ?_
    rintro e w3 ⟨rfl, hb⟩
    have B3 := Lib.hid (B2.out.trans (hb.mono B2.out.size))
    clear hb
    go_wp2_with fail
    go_ret
    exact ⟨rfl, B3.out⟩
end Go.Proofs.YtnnlbllkckakbaaDoor

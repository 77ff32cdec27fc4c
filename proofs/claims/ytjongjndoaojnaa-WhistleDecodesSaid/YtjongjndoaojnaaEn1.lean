/-
  What can be left over, as the reference finds it: what is left over of two texts; the walks of leftover, has. Conditions: sizes that a machine holds.
-/
import Derived.Test.YtjongjndoaojnaaBk2
import Derived.Lib.MinMax
namespace Go.Proofs.Ytjongjndoaojnaa
open Go.RowKit
set_option linter.unusedVariables false

def lefB (x y : ByteArray) : Bool := if y.size < x.size then pfx y x else (decide (x.size < y.size) && pfx x y)
def lefS (x y : ByteArray) : ByteArray := if y.size < x.size then drp x y.size else drp y x.size
theorem pfx_of {x y : ByteArray} {t : List UInt8} (h : bl y = bl x ++ t) : pfx x y = true ∧ bl (drp y x.size) = t := by
  refine ⟨decide_eq_true ⟨t, h.symm⟩, ?_⟩
  rw [bl_drp, h, ← bl_len]
  simp
theorem lef_of {x y : ByteArray} {t : List UInt8} (h : bl y = bl x ++ t) (ht : t ≠ []) : (lefB x y = true ∧ bl (lefS x y) = t) ∧ (lefB y x = true ∧ bl (lefS y x) = t) := by
  have h1 := congrArg List.length h
  rw [List.length_append, bl_len, bl_len] at h1
  have h2 := List.length_pos_iff.2 ht
  obtain ⟨p, d⟩ := pfx_of h
  unfold lefB lefS
  rw [if_neg (by omega), if_neg (by omega), if_pos (by omega), if_pos (by omega), decide_eq_true (by omega), p]
  exact ⟨⟨rfl, d⟩, rfl, d⟩
theorem lef_inv {x y : ByteArray} (h : lefB x y = true) : (bl y = bl x ++ bl (lefS x y) ∨ bl x = bl y ++ bl (lefS x y)) ∧ bl (lefS x y) ≠ [] := by
  unfold lefB at h
  unfold lefS
  by_cases h1 : y.size < x.size
  · rw [if_pos h1] at h ⊢
    have e : bl x = bl y ++ bl (drp x y.size) := by
      rw [bl_drp, ← bl_len]
      exact pre_drop (pfx_pre h)
    refine ⟨.inr e, fun e2 => ?_⟩
    rw [e2, List.append_nil] at e
    have := congrArg List.length e
    rw [bl_len, bl_len] at this
    omega
  · rw [if_neg h1] at h ⊢
    rw [Bool.and_eq_true, decide_eq_true_eq] at h
    have e : bl y = bl x ++ bl (drp y x.size) := by
      rw [bl_drp, ← bl_len]
      exact pre_drop (pfx_pre h.2)
    refine ⟨.inl e, fun e2 => ?_⟩
    rw [e2, List.append_nil] at e
    have := congrArg List.length e
    rw [bl_len, bl_len] at this
    omega
theorem lef_base {C : List ByteArray} {x y : ByteArray} (hx : x ∈ C) (hy : y ∈ C) (h : lefB x y = true) : End (Cl C) (bl (lefS x y)) := by
  obtain ⟨h1, h2⟩ := lef_inv h
  have mx : bl x ∈ Cl C := List.mem_map_of_mem hx
  have my : bl y ∈ Cl C := List.mem_map_of_mem hy
  rcases h1 with e | e
  · refine End.base mx my (fun e2 => h2 ?_) e
    rw [← e2] at e
    exact List.append_cancel_left ((List.append_nil _).trans e).symm
  · refine End.base my mx (fun e2 => h2 ?_) e
    rw [e2] at e
    exact List.append_cancel_left ((List.append_nil _).trans e).symm
theorem lef_step {C : List ByteArray} {u s : ByteArray} (hu : End (Cl C) (bl u)) (hne : bl u ≠ []) (hs : s ∈ C) (h : lefB u s = true) : End (Cl C) (bl (lefS u s)) := by
  obtain ⟨h1, h2⟩ := lef_inv h
  have ms : bl s ∈ Cl C := List.mem_map_of_mem hs
  rcases h1 with e | e
  · exact End.right ms hu hne e
  · exact End.left ms hu hne e
theorem lef_all {s u : ByteArray} {t : List UInt8} (h : stp (bl s) (bl u) = some t) (ht : t ≠ []) : lefB u s = true ∧ bl (lefS u s) = t := by
  unfold stp at h
  by_cases h1 : bl s <+: bl u
  · rw [if_pos h1] at h
    injection h with h
    exact (lef_of (x := s) (y := u) (t := t) (by rw [← h]; exact pre_drop h1) ht).2
  · rw [if_neg h1] at h
    by_cases h2 : bl u <+: bl s
    · rw [if_pos h2] at h
      injection h with h
      exact (lef_of (x := u) (y := s) (t := t) (by rw [← h]; exact pre_drop h2) ht).1
    · rw [if_neg h2] at h
      cases h
theorem lefS_size (x y : ByteArray) : (lefS x y).size ≤ max x.size y.size := by
  unfold lefS
  split <;> rw [drp_size] <;> omega
set_option maxRecDepth 4000 in
set_option maxHeartbeats 1000000 in
theorem leftover_any (x y : ByteArray) (w : World) (hx : x.size ≤ 9223372036854775807) (hy : y.size ≤ 9223372036854775807) :
    Calls Try.prog 96 #[.string x, .string y] w fun e w' => e = .returned (.tuple #[.string (lefS x y), .bool (lefB x y)]) ∧ ∃ m, w' = w.drewN m := by
  by_cases h : y.size < x.size
  · have e1 : decide ((y.size : Int) < (x.size : Int)) = true := by simp; omega
    have e2 : decide (y.size < x.size) = true := by simpa using h
    have HS := Lib.hid (show lefS x y = drp x y.size from if_pos h)
    have HB := Lib.hid (show lefB x y = pfx y x from if_pos h)
    have HP := Lib.hid (begins_any x y)
    have z0 : (0 : Int) ≤ (y.size : Int) := by omega
    have z1 : (y.size : Int) ≤ (x.size : Int) := by omega
    have z2 : min (y.size : Int) (x.size : Int) = (y.size : Int) := by omega
    go_enter Try.func96, Try.ntmps96
    go_wp2_with fail
    go_quiet ((go_at_call 65; exact qs0 (HP.out _)))
    go_wp2_with fail
    go_ret2
    exact ⟨by rw [HS.out, HB.out]; rfl, _, rfl⟩
  · have e1 : decide ((y.size : Int) < (x.size : Int)) = false := by simp; omega
    have e2 : decide (y.size < x.size) = false := by simpa using h
    have HS := Lib.hid (show lefS x y = drp y x.size from if_neg h)
    have HP := Lib.hid (begins_any y x)
    have z0 : (0 : Int) ≤ (x.size : Int) := by omega
    have z1 : (x.size : Int) ≤ (y.size : Int) := by omega
    have z2 : min (x.size : Int) (y.size : Int) = (x.size : Int) := by omega
    by_cases h2 : x.size < y.size
    · have e3 : decide ((x.size : Int) < (y.size : Int)) = true := by simp; omega
      have e4 : decide (x.size < y.size) = true := by simpa using h2
      have HB := Lib.hid (show lefB x y = pfx x y by unfold lefB; rw [if_neg h, decide_eq_true h2]; rfl)
      clear h h2
      go_enter Try.func96, Try.ntmps96
      go_wp2_with fail
      go_quiet ((go_at_call 65; exact qs0 (HP.out _)))
      go_wp2_with fail
      go_ret2
      exact ⟨by rw [HS.out, HB.out]; rfl, _, rfl⟩
    · have e3 : decide ((x.size : Int) < (y.size : Int)) = false := by simp; omega
      have e4 : decide (x.size < y.size) = false := by simpa using h2
      have HB := Lib.hid (show lefB x y = false by unfold lefB; rw [if_neg h, decide_eq_false h2]; rfl)
      clear h h2
      go_enter Try.func96, Try.ntmps96
      go_wp2_with fail
      go_quiet (fail)
      go_wp2_with fail
      go_ret2
      exact ⟨by rw [HS.out, HB.out]; rfl, _, rfl⟩
set_option maxRecDepth 4000 in
set_option maxHeartbeats 1000000 in
theorem has_any (A : Option Addr) (c : Nat) (L : List ByteArray) (x : ByteArray) (w : World) (hr : Rd w w.heap.size A (txts L)) (hl : L.length ≤ 9223372036854775807) :
    Calls Try.prog 72 #[.slice A L.length c, .string x] w fun e w' => e = .returned (.bool (inB x L)) ∧ w = w' := by
  have HR := Lib.hid hr
  clear hr
  go_enter Try.func72, Try.ntmps72
  go_wp2_with fail
  go_loop [5] (fun i => ∃ k : Nat, k ≤ L.length ∧ i = .int .i64 k ∧ ∀ (j : Nat) e, j < k → L[j]? = some e → ¬ e = x) (fun i => L.length - (intOf i).toNat)
  case atStart => exact ⟨0, by omega, rfl, fun j e hj => by omega⟩
  case round =>
    obtain ⟨k, hk, rfl, hall⟩ := hrel
    have HA := Lib.hid hall
    clear hall
    by_cases hlt : k < L.length
    · obtain ⟨b, o, d, rfl, hd, hc⟩ := HR.out.txt k hlt
      by_cases hp : d = x
      · have HX := Lib.hid (show inB x L = true from inB_iff.2 (List.mem_of_getElem? (by rw [← hp]; exact hd.out)))
        have e1 : (d.toList == x.toList) = true := by rw [bl_eqb, hp]; simp
        clear hp
        go_wp2_with fail
        go_ret
        exact ⟨by rw [HX.out]; rfl, rfl⟩
      · have HX := Lib.hid (neb_next hd.out hp HA.out)
        have e1 : (d.toList == x.toList) = false := by rw [bl_eqb]; exact decide_eq_false hp
        clear hp
        go_wp2_with fail
        go_round
        case rel => exact ⟨k + 1, by omega, by go_num, HX.out⟩
        case measure => simp [intOf]; omega
    · have hks : k = L.length := by omega
      have HX := Lib.hid (show inB x L = false by
        have := notin_of (C := L) (k := k) (s := x) HA.out
        rw [hks, List.take_length] at this
        exact this)
      subst hks
      go_wp2_with fail
      go_ret
      exact ⟨by rw [HX.out]; rfl, rfl⟩
end Go.Proofs.Ytjongjndoaojnaa

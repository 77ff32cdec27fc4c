/-
  Worn digits and in how many ways they are filled in, in the reference: the walks of wornDigits and counted. Condition: sizes.
-/
import Derived.Test.YtoenecgjiejljaaDoorRc3
import Derived.Test.YtoenecgjiejljaaDoorFit
import Derived.Test.YtoenecgjiejljaaDoorSlb
import Derived.Deep.RegionWith
import Derived.IntWalk
namespace Go.Proofs.YtoenecgjiejljaaDoor
open Go.RowKit
set_option linter.unusedVariables false

def wnI (b : Int) : Int := if b = 63 then -1 else b - 48
def wlK (s : ByteArray) (k : Nat) : List Int := (List.range k).map fun i => wnI (bAt s (s.size - 6 + i))
/-- The digits of a worn ring. -/
def wL (s : ByteArray) : List Int := wlK s 6
theorem wlK_length (s : ByteArray) (k : Nat) : (wlK s k).length = k := by simp [wlK]
theorem wlK_succ (s : ByteArray) (k : Nat) : wlK s (k + 1) = wlK s k ++ [wnI (bAt s (s.size - 6 + k))] := by simp [wlK, List.range_succ]
theorem wl_dig {s : ByteArray} (h : formB s true = true) : WDig (wL s) := by
  intro x hx
  obtain ⟨i, hi, rfl⟩ := List.mem_map.1 hx
  have hi := List.mem_range.1 hi
  have hs := form_size h
  have := form_at h (i := s.size - 6 + i) (by omega)
  unfold okAt at this
  rw [if_neg (by omega)] at this
  unfold wnI
  by_cases h63 : bAt s (s.size - 6 + i) = 63
  · rw [if_pos h63]; exact .inl rfl
  · rw [if_neg h63]
    refine .inr ?_
    simp only [h63, Bool.true_and, decide_false, Bool.or_false] at this
    rw [isNum_iff] at this
    exact ⟨by omega, by omega⟩
set_option maxHeartbeats 1000000 in
theorem wornDigits_own (s : ByteArray) (w : World) (h6 : 6 ≤ s.size) (hsz : s.size ≤ 1000) :
    Calls Tryd.prog 74 #[.string s] w fun e w' => ∃ A c, e = .returned (.slice A 6 c) ∧ w'.ownsRow w.heap.size 3 1 (.slice A 6 c) 6 (ints (wL s)) ∧ Below w.heap.size w w' := by
  obtain ⟨z, hz⟩ : ∃ z, s.size = z + 6 := ⟨s.size - 6, by omega⟩
  have HZ := Lib.hid hz
  have e1 : ((s.size : Int) - 6) = (z : Int) := by omega
  clear hz
  go_enter Tryd.func74, Tryd.ntmps74
  go_wp2
  go_loopw [3, 4] (fun v i wr => ∃ (k : Nat) (A : Option Addr) (c : Nat), k ≤ 6 ∧ i = .int .i64 ((z : Int) + k) ∧ v = .slice A k c ∧ wr.ownsRow w.heap.size 3 1 v k (ints (wlK s k)) ∧ Below w.heap.size w wr) (fun _ i _ => (s.size - intOf i).toNat)
  case atStart => exact ⟨0, none, 0, by omega, by simp, rfl, World.ownsRow_nil _ _ _ _, Below.refl _ _⟩
  case round =>
    obtain ⟨k, A, c, hk, rfl, rfl, hown, hb⟩ := hrel
    have O := Lib.hid hown
    have BB := Lib.hid hb
    clear hown hb
    by_cases hlt : k < 6
    · have hp : z + k < s.size := by have := HZ.out; omega
      have hb1 := bAt_get s (z + k) hp
      have hr := bAt_range s (z + k)
      rw [hb1] at hr
      have D := Lib.hid hb1
      obtain ⟨r0, r1⟩ := hr
      clear hb1
      by_cases h63 : (((s[z + k]'hp).toNat : Nat) : Int) = 63
      · have HN := Lib.hid (show wnI (bAt s (z + k)) = -1 by rw [D.out, h63]; rfl)
        rw [h63] at r0 r1
        have q1 : ((((s[z + k]'hp).toNat : Nat) : Int) == 63) = true := by simpa using h63
        have q2 : ((s[z + k]'hp).toNat == 63) = true := by rw [beq_iff_eq]; omega
        go_wp2_with (at_builtin; refine app eInt' rfl _ _ rfl rfl (O.out.alloc _) (BB.out.alloc BB.out.size _) (size_alloc' BB.out.size _) rfl (Rd.one wr (.int .i64 (-1)) 3 (Nat.lt_succ_self _)) (by simp) (ints_one [-1]) (k + 1) rfl (by omega) ?_; intro A4 c4 w4 o4 b4 g4 _; have O4 := Lib.hid o4; have B4 := Lib.hid b4; clear o4 b4 g4)
        go_roundw
        case rel => exact ⟨k + 1, A4, c4, by omega, by go_num, rfl, by rw [wlK_succ, ints_append, HZ.out, Nat.add_sub_cancel, HN.out]; exact O4.out, B4.out⟩
        case measure => have := HZ.out; simp [intOf]; omega
      · have q1 : ((((s[z + k]'hp).toNat : Nat) : Int) == 63) = false := by simpa using h63
        have q2 : ((s[z + k]'hp).toNat == 63) = false := by rw [beq_eq_false_iff_ne]; omega
        have HN := Lib.hid (show wnI (bAt s (z + k)) = (((s[z + k]'hp).toNat : Nat) : Int) - 48 by rw [D.out]; exact if_neg h63)
        clear h63
        generalize hd : (((s[z + k]'hp).toNat : Nat) : Int) = d at *
        go_wp2_with (at_builtin; refine app eInt' rfl _ _ rfl rfl (O.out.alloc _) (BB.out.alloc BB.out.size _) (size_alloc' BB.out.size _) rfl (Rd.one wr (.int .i64 (d - 48)) 3 (Nat.lt_succ_self _)) (by simp) (ints_one [d - 48]) (k + 1) rfl (by omega) ?_; intro A4 c4 w4 o4 b4 g4 _; have O4 := Lib.hid o4; have B4 := Lib.hid b4; clear o4 b4 g4)
        go_roundw
        case rel => exact ⟨k + 1, A4, c4, by omega, by go_num, rfl, by rw [wlK_succ, ints_append, HZ.out, Nat.add_sub_cancel, HN.out]; exact O4.out, B4.out⟩
        case measure => have := HZ.out; simp [intOf]; omega
    · have hk6 : k = 6 := by omega
      subst hk6
      have hnp : ¬ ((z : Int) + 6 < (s.size : Int)) := by have := HZ.out; omega
      go_wp2
      go_ret
      exact ⟨A, c, rfl, O.out, BB.out⟩
theorem wornDigits_any (s : ByteArray) (w : World) (h6 : 6 ≤ s.size) (hsz : s.size ≤ 1000) :
    Calls Tryd.prog 74 #[.string s] w (MadeInts w (wL s)) := by
  refine (wornDigits_own s w h6 hsz).mono ?_
  rintro e w' ⟨A, c, rfl, ho, hb⟩
  exact ⟨A, c, by rw [wL, wlK_length], Rd.of_own ho, hb⟩
end Go.Proofs.YtoenecgjiejljaaDoor

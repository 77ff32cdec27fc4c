/-
  What each law of whistle calls first: the walks of known, Long, many. Condition: the code can be read.
-/
import Derived.Test.YtjongjndoaojnaaFl7
import Derived.Test.YtjongjndoaojnaaSg3
namespace Go.Proofs.Ytjongjndoaojnaa
open Go.RowKit
set_option linter.unusedVariables false

theorem known_len : fromE [2, 1, 2] = 0 := by decide +kernel
theorem known_from : fromL [2, 1, 2] = [⟨#[45, 46]⟩, ⟨#[46]⟩, ⟨#[45, 45]⟩] := by
  unfold fromL
  rw [if_pos known_len, known_code]
theorem rd_lit (w : World) (cs : List Value) (e : TypeId) : Rd (w.alloc (.cells cs.toArray e)) (w.alloc (.cells cs.toArray e)).heap.size (some ⟨w.heap.size, 0, none⟩) cs := Rd.lit w cs e
theorem kA_sf : sfB kA = true := by unfold sfB; rw [if_pos kA_vd]; exact kA_safe
theorem kB_sf : sfB kB = false := by unfold sfB; rw [if_pos kB_vd]; exact kB_safe
theorem sz_small {C : List ByteArray} (h : (C.all fun s => decide (s.size ≤ 100)) = true) : Sz C := by
  intro s hs
  have := List.all_eq_true.1 h s hs
  simp only [decide_eq_true_eq] at this
  omega
theorem kFrom (w : World) : Calls Try.prog 43 #[.slice (some ⟨w.heap.size, 0, none⟩) 3 3] (w.alloc (.cells #[.int .i64 2, .int .i64 1, .int .i64 2] 3)) fun e w' =>
    ∃ A c, e = .returned (.tuple #[.slice A 3 c, .int .i64 0]) ∧ Rd w' w'.heap.size A (txts [⟨#[45, 46]⟩, ⟨#[46]⟩, ⟨#[45, 45]⟩]) ∧ Below w.heap.size w w' := by
  refine (FromLengths_any (some ⟨w.heap.size, 0, none⟩) 3 [2, 1, 2] _ (rd_lit w (ints [2, 1, 2]) 3) (by decide)).mono ?_
  rintro e w' ⟨A, c, he, _, _, hr, hb⟩
  rw [known_from] at he hr
  rw [known_len] at he
  exact ⟨A, c, he, hr, ((Below.refl _ _).alloc (Nat.le_refl _) _).trans (hb.mono (by simp))⟩
theorem kSafeA (w : World) : Calls Try.prog 27 #[.slice (some ⟨w.heap.size, 0, none⟩) 2 2] (w.alloc (.cells #[.string ⟨#[46]⟩, .string ⟨#[46, 45]⟩] 9)) fun e w' =>
    e = .returned (.tuple #[.bool true, .int .i64 0]) ∧ Below w.heap.size w w' := by
  have h := IsSafe_any (some ⟨w.heap.size, 0, none⟩) 2 kA _ (rd_lit w (txts kA) 9) (sz_small (by decide +kernel)) (by decide) (by decide)
  rw [kA_sf, kA_vd] at h
  exact h.mono fun e w' ⟨he, hb⟩ => ⟨he, ((Below.refl _ _).alloc (Nat.le_refl _) _).trans (hb.mono (by simp))⟩
theorem kSafeB (w : World) : Calls Try.prog 27 #[.slice (some ⟨w.heap.size, 0, none⟩) 3 3] (w.alloc (.cells #[.string ⟨#[46]⟩, .string ⟨#[46, 45]⟩, .string ⟨#[45, 46]⟩] 9)) fun e w' =>
    e = .returned (.tuple #[.bool false, .int .i64 0]) ∧ Below w.heap.size w w' := by
  have h := IsSafe_any (some ⟨w.heap.size, 0, none⟩) 3 kB _ (rd_lit w (txts kB) 9) (sz_small (by decide +kernel)) (by decide) (by decide)
  rw [kB_sf, kB_vd] at h
  exact h.mono fun e w' ⟨he, hb⟩ => ⟨he, ((Below.refl _ _).alloc (Nat.le_refl _) _).trans (hb.mono (by simp))⟩
theorem bdN {B : Nat} {w w' : World} (h : Below B w w') (m : Nat) : Below B w (w'.drewN m) := by
  induction m with
  | zero => exact h
  | succ m ih => exact below_drewN h _
set_option maxRecDepth 4000 in
set_option maxHeartbeats 1000000 in
theorem known_any (w : World) : Calls Try.prog 17 #[] w fun e w' => e = .returned (.bool true) ∧ Below w.heap.size w w' := by
  go_enter Try.func17, Try.ntmps17
  go_wp2_with fail
  refine (kFrom w).mono ?_
  rintro e w1 ⟨A, c, rfl, hr, hb⟩
  have R1 := Lib.hid hr
  have B1 := Lib.hid hb
  clear hr hb
  go_wp2_with fail
  refine (kSafeA w1).mono ?_
  rintro e w2 ⟨rfl, hb⟩
  have R2 := Lib.hid ((R1.out.below hb (Nat.le_refl _)).more hb.size)
  have B2 := Lib.hid (B1.out.trans (hb.mono B1.out.size))
  clear hb R1
  go_wp2_with fail
  refine (kSafeB w2).mono ?_
  rintro e w3 ⟨rfl, hb⟩
  have R3 := Lib.hid ((R2.out.below hb (Nat.le_refl _)).more hb.size)
  have B3 := Lib.hid (B2.out.trans (hb.mono B2.out.size))
  clear hb R2
  have HS := Lib.hid (SameTexts_any A (some ⟨w3.heap.size, 0, none⟩) c 3 [⟨#[45, 46]⟩, ⟨#[46]⟩, ⟨#[45, 45]⟩] [⟨#[45, 46]⟩, ⟨#[46]⟩, ⟨#[45, 45]⟩] (w3.alloc (.cells #[.string ⟨#[45, 46]⟩, .string ⟨#[46]⟩, .string ⟨#[45, 45]⟩] 9))
    ((R3.out.below ((Below.refl _ _).alloc (Nat.le_refl _) _) (Nat.le_refl _)).more (by simp)) (rd_lit w3 (txts [⟨#[45, 46]⟩, ⟨#[46]⟩, ⟨#[45, 45]⟩]) 9) (by decide) (by decide))
  rw [show eqT [⟨#[45, 46]⟩, ⟨#[46]⟩, ⟨#[45, 45]⟩] [⟨#[45, 46]⟩, ⟨#[46]⟩, ⟨#[45, 45]⟩] = true from decide_eq_true rfl] at HS
  go_wp2_with fail
  refine HS.out.mono ?_
  rintro e w4 ⟨rfl, m, rfl⟩
  go_wp2_with fail
  go_ret
  exact ⟨rfl, bdN (B3.out.alloc B3.out.size _) m⟩
/-- Has a code long lists? -/
def longB (C : List ByteArray) : Bool := (C.any fun s => decide (100 < s.size)) || decide (60 < C.length)
theorem long_hit {C : List ByteArray} {k : Nat} {s : ByteArray} (h : C[k]? = some s) (hs : 100 < s.size) : longB C = true := by
  unfold longB
  rw [show (C.any fun s => decide (100 < s.size)) = true from List.any_eq_true.2 ⟨s, List.mem_of_getElem? h, by simpa using hs⟩]
  rfl
theorem long_next {C : List ByteArray} {k : Nat} {s : ByteArray} (h : C[k]? = some s) (hs : ¬ 100 < s.size) (ha : ((C.take k).any fun s => decide (100 < s.size)) = false) : ((C.take (k + 1)).any fun s => decide (100 < s.size)) = false := by
  rw [List.take_add_one, h, List.any_append, ha]
  simp
  omega
theorem long_end {C : List ByteArray} {k : Nat} (hk : k = C.length) (ha : ((C.take k).any fun s => decide (100 < s.size)) = false) : longB C = decide (60 < C.length) := by
  rw [hk, List.take_length] at ha
  unfold longB
  rw [ha]
  rfl
set_option maxRecDepth 4000 in
set_option maxHeartbeats 1000000 in
theorem Long_any (A : Option Addr) (c : Nat) (C : List ByteArray) (w : World) (hr : Rd w w.heap.size A (txts C)) (hl : C.length ≤ 9223372036854775807) :
    Calls Try.prog 15 #[.slice A C.length c] w fun e w' => e = .returned (.bool (longB C)) ∧ w = w' := by
  have HR := Lib.hid hr
  clear hr
  go_enter Try.func15, Try.ntmps15
  go_wp2_with fail
  go_loop [3] (fun i => ∃ k : Nat, k ≤ C.length ∧ i = .int .i64 k ∧ ((C.take k).any fun s => decide (100 < s.size)) = false) (fun i => C.length - (intOf i).toNat)
  case atStart => exact ⟨0, by omega, rfl, by simp⟩
  case round =>
    obtain ⟨k, hk, rfl, hall⟩ := hrel
    have HA := Lib.hid hall
    clear hall
    by_cases hlt : k < C.length
    · obtain ⟨b, o, s, rfl, hd, hc⟩ := HR.out.txt k hlt
      by_cases hs : 100 < s.size
      · have HX := Lib.hid (long_hit hd.out hs)
        have e1 : decide ((100 : Int) < (s.size : Int)) = true := by simp; omega
        have e2 : decide (100 < s.size) = true := by simpa using hs
        clear hs
        go_wp2_with fail
        go_ret
        exact ⟨by rw [HX.out]; rfl, rfl⟩
      · have HX := Lib.hid (long_next hd.out hs HA.out)
        have e1 : decide ((100 : Int) < (s.size : Int)) = false := by simp; omega
        have e2 : decide (100 < s.size) = false := by simpa using hs
        clear hs
        go_wp2_with fail
        go_round
        case rel => exact ⟨k + 1, by omega, by go_num, HX.out⟩
        case measure => simp [intOf]; omega
    · have HX := Lib.hid (long_end (show k = C.length by omega) HA.out)
      have hks : k = C.length := by omega
      subst hks
      have HI := Lib.hid (show decide ((60 : Int) < (C.length : Int)) = decide (60 < C.length) by rw [decide_eq_decide]; omega)
      go_wp2_with fail
      go_ret
      exact ⟨by rw [HX.out]; first | rfl | (rw [← HI.out]; rfl), rfl⟩
theorem many_any (A : Option Addr) (n c : Nat) (w : World) (hl : n ≤ 9223372036854775807) :
    Calls Try.prog 16 #[.slice A n c] w fun e w' => e = .returned (.bool (decide (500 < n))) ∧ w = w' := by
  have HI := Lib.hid (show decide ((500 : Int) < (n : Int)) = decide (500 < n) by rw [decide_eq_decide]; omega)
  go_enter Try.func16, Try.ntmps16
  go_wp2_with fail
  go_ret
  exact ⟨by first | rfl | (rw [← HI.out]; rfl), rfl⟩
end Go.Proofs.Ytjongjndoaojnaa

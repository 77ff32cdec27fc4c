/-
  Texts: the walks of HasPrefix, CutPrefix, begins, isLength, isNotes, areNotes. Conditions: sizes that a machine holds.
-/
import Derived.Test.YtjongjndoaojnaaTs1
import Derived.Test.YtjongjndoaojnaaProg
import Derived.WalkLawsBesides
import Derived.WalkSpells
import Derived.Laws.RangeAny
namespace Go.Proofs.Ytjongjndoaojnaa
open Go.RowKit
set_option linter.unusedVariables false

/-- Does s begin with t? -/
def pfx (t s : ByteArray) : Bool := decide (bl t <+: bl s)
def drp (s : ByteArray) (n : Nat) : ByteArray := s.extract n s.size
theorem bl_drp (s : ByteArray) (n : Nat) : bl (drp s n) = (bl s).drop n := by
  unfold bl drp
  rw [Lib.extract_data, List.take_of_length_le (by simp)]
theorem drp_size (s : ByteArray) (n : Nat) : (drp s n).size = s.size - n := by simp [drp]
theorem pfx_eq {s t : ByteArray} (h : t.size ≤ s.size) : ((s.extract 0 t.size).toList == t.toList) = pfx t s := by
  rw [bl_eqb]
  unfold pfx
  have e : bl (s.extract 0 t.size) = (bl s).take t.size := by
    unfold bl
    rw [Lib.extract_data]; simp
  rw [decide_eq_decide]
  constructor
  · intro h1
    have h2 := congrArg bl h1
    rw [e] at h2
    rw [← h2]
    exact List.take_prefix _ _
  · intro h1
    apply bl_inj
    rw [e, ← bl_len]
    exact (List.prefix_iff_eq_take.1 h1).symm
theorem pfx_short {s t : ByteArray} (h : ¬ t.size ≤ s.size) : pfx t s = false := by
  unfold pfx
  refine decide_eq_false fun h1 => h ?_
  have := h1.length_le
  rwa [bl_len, bl_len] at this
theorem pfx_le {s t : ByteArray} (h : pfx t s = true) : t.size ≤ s.size := by
  by_cases h1 : t.size ≤ s.size
  · exact h1
  · rw [pfx_short h1] at h; cases h
theorem pfx_pre {s t : ByteArray} (h : pfx t s = true) : bl t <+: bl s := of_decide_eq_true h
set_option maxHeartbeats 1000000 in
theorem sHasPrefix_any (s t : ByteArray) (w : World) : Calls Try.prog 92 #[.string s, .string t] w fun e w' => e = .returned (.bool (pfx t s)) ∧ w = w' := by
  by_cases h : t.size ≤ s.size
  · have h1 : decide ((t.size : Int) ≤ (s.size : Int)) = true := by simp; omega
    have h2 : decide (t.size ≤ s.size) = true := by simpa using h
    have HP := Lib.hid (pfx_eq h)
    have z0 : (0 : Int) ≤ (t.size : Int) := by omega
    go_enter Try.func92, Try.ntmps92
    go_wp2_with fail
    go_ret
    exact ⟨by rw [← HP.out]; rfl, rfl⟩
  · have h1 : decide ((t.size : Int) ≤ (s.size : Int)) = false := by simp; omega
    have h2 : decide (t.size ≤ s.size) = false := by simpa using h
    have HP := Lib.hid (pfx_short h)
    go_enter Try.func92, Try.ntmps92
    go_wp2_with fail
    go_ret
    exact ⟨by rw [HP.out]; rfl, rfl⟩
theorem HasPrefix_any (s t : ByteArray) (w : World) : Calls Try.prog 60 #[.string s, .string t] w fun e w' => e = .returned (.bool (pfx t s)) ∧ w = w' := by
  go_enter Try.func60, Try.ntmps60
  go_wp2_with fail
  refine (sHasPrefix_any s t w).mono ?_
  rintro e w' ⟨rfl, rfl⟩
  go_wp2_with fail
  go_ret
  exact ⟨rfl, rfl⟩
set_option maxHeartbeats 1000000 in
theorem begins_any (s t : ByteArray) (w : World) : Calls Try.prog 65 #[.string s, .string t] w fun e w' => e = .returned (.bool (pfx t s)) ∧ w = w' := by
  by_cases h : t.size ≤ s.size
  · have h1 : decide ((t.size : Int) ≤ (s.size : Int)) = true := by simp; omega
    have h2 : decide (t.size ≤ s.size) = true := by simpa using h
    have HP := Lib.hid (pfx_eq h)
    have z0 : (0 : Int) ≤ (t.size : Int) := by omega
    go_enter Try.func65, Try.ntmps65
    go_wp2_with fail
    go_ret
    exact ⟨by rw [← HP.out]; rfl, rfl⟩
  · have h1 : decide ((t.size : Int) ≤ (s.size : Int)) = false := by simp; omega
    have h2 : decide (t.size ≤ s.size) = false := by simpa using h
    have HP := Lib.hid (pfx_short h)
    go_enter Try.func65, Try.ntmps65
    go_wp2_with fail
    go_ret
    exact ⟨by rw [HP.out]; rfl, rfl⟩
set_option maxHeartbeats 1000000 in
theorem sCutPrefix_any (s t : ByteArray) (w : World) : Calls Try.prog 105 #[.string s, .string t] w fun e w' => e = .returned (.tuple #[.string (if pfx t s = true then drp s t.size else s), .bool (pfx t s)]) ∧ w = w' := by
  have HH := Lib.hid (sHasPrefix_any s t w)
  cases h : pfx t s
  · rw [h] at HH
    go_enter Try.func105, Try.ntmps105
    go_wp2_with fail
    refine (HH.out).mono ?_
    rintro e w' ⟨rfl, rfl⟩
    go_wp2_with fail
    go_ret2
    exact ⟨rfl, rfl⟩
  · rw [h] at HH
    have hle := pfx_le h
    have z0 : (0 : Int) ≤ (t.size : Int) := by omega
    have z1 : (t.size : Int) ≤ (s.size : Int) := by omega
    go_enter Try.func105, Try.ntmps105
    go_wp2_with fail
    refine (HH.out).mono ?_
    rintro e w' ⟨rfl, rfl⟩
    go_wp2_with fail
    go_ret2
    exact ⟨rfl, rfl⟩
theorem CutPrefix_any (s t : ByteArray) (w : World) : Calls Try.prog 95 #[.string s, .string t] w fun e w' => e = .returned (.tuple #[.string (if pfx t s = true then drp s t.size else s), .bool (pfx t s)]) ∧ w = w' := by
  have HH := Lib.hid (sCutPrefix_any s t w)
  generalize (if pfx t s = true then drp s t.size else s) = r at *
  generalize pfx t s = p at *
  go_enter Try.func95, Try.ntmps95
  go_wp2_with fail
  refine (HH.out).mono ?_
  rintro e w' ⟨rfl, rfl⟩
  go_wp2_with fail
  go_ret2
  exact ⟨rfl, rfl⟩
def isLen (n : Int) : Bool := decide (1 ≤ n) && decide (n ≤ 12)
theorem isLength_any (n : Int) (w : World) : Calls Try.prog 55 #[.int .i64 n] w fun e w' => e = .returned (.bool (isLen n)) ∧ w = w' := by
  by_cases h : 1 ≤ n
  · have h1 : decide (1 ≤ n) = true := by simpa using h
    have HU := Lib.hid (show isLen n = decide (n ≤ 12) by simp [isLen, h])
    go_enter Try.func55, Try.ntmps55
    go_wp2_with fail
    go_ret
    exact ⟨by rw [HU.out]; rfl, rfl⟩
  · have h1 : decide (1 ≤ n) = false := by simpa using h
    have HU := Lib.hid (show isLen n = false by simp [isLen, h])
    go_enter Try.func55, Try.ntmps55
    go_wp2_with fail
    go_ret
    exact ⟨by rw [HU.out]; rfl, rfl⟩
end Go.Proofs.Ytjongjndoaojnaa

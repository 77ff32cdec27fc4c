/-
  Texts of notes: the walks of isNotes and areNotes. Conditions: sizes that a machine holds.
-/
import Derived.Test.YtjongjndoaojnaaWs1
namespace Go.Proofs.Ytjongjndoaojnaa
open Go.RowKit
set_option linter.unusedVariables false

def isNoteI (r : Int) : Bool := decide (r = 46) || decide (r = 45)
theorem bl_get (s : ByteArray) (i : Nat) (h : i < s.size) : (bl s)[i]? = some (s[i]'h) := by
  have h' : i < (bl s).length := by rw [bl_len]; exact h
  rw [List.getElem?_eq_getElem h']
  rfl
theorem note_int (c : UInt8) : isNoteI (c.toNat : Int) = isNote c := by
  unfold isNoteI isNote
  congr 1 <;> rw [decide_eq_decide] <;> omega
theorem notes_bad {s : ByteArray} {i : Nat} {c : UInt8} (h : (bl s)[i]? = some c) (hb : isNote c = false) : notesB s = false := by
  unfold notesB
  rw [List.all_eq_false]
  exact ⟨c, List.mem_of_getElem? h, by rw [hb]; simp⟩
theorem notes_next {s : ByteArray} {i : Nat} {c : UInt8} (h : (bl s)[i]? = some c) (hb : isNote c = true) (ha : ((bl s).take i).all isNote = true) : ((bl s).take (i + 1)).all isNote = true := by
  rw [List.take_add_one, h, List.all_append, ha]
  simp [hb]
theorem notes_end {s : ByteArray} {i : Nat} (hi : s.size ≤ i) (ha : ((bl s).take i).all isNote = true) : notesB s = true := by
  rw [List.take_of_length_le (by rw [bl_len]; exact hi)] at ha
  exact ha
/-- What a range over a text hands out at a place: a note exactly if the byte there is one; then the next place is the next byte. -/
theorem rune_note (s : ByteArray) (pos : Nat) (h : pos < s.size) :
    isNoteI ((Utf8.decode s pos).1 : Int) = isNote (s[pos]'h) ∧ (isNote (s[pos]'h) = true → (Utf8.decode s pos).2 = 1) ∧ 1 ≤ (Utf8.decode s pos).2 := by
  rw [← note_int]
  by_cases ha : (s[pos]'h).toNat < 128
  · rw [decode_ascii s pos h ha]
    exact ⟨rfl, fun _ => rfl, Nat.le_refl _⟩
  · have hh := decode_high s pos h (by omega)
    have h1 : isNoteI ((s[pos]'h).toNat : Int) = false := by simp [isNoteI]; omega
    have h2 : isNoteI ((Utf8.decode s pos).1 : Int) = false := by simp [isNoteI]; omega
    rw [h1, h2]
    exact ⟨rfl, (fun h => by cases h), hh.2⟩
theorem iter_below (w : World) (s : ByteArray) (pos : Nat) : Below w.heap.size w (w.iter s pos) := (Below.refl _ _).alloc (Nat.le_refl _) _
theorem note_cases {r : Int} : ((r == 46) = true ∧ (r != 46) = false ∧ isNoteI r = true) ∨ ((r == 46) = false ∧ (r != 46) = true ∧ (r == 45) = true ∧ (r != 45) = false ∧ isNoteI r = true) ∨ ((r == 46) = false ∧ (r != 46) = true ∧ (r == 45) = false ∧ (r != 45) = true ∧ isNoteI r = false) := by
  by_cases h : r = 46
  · subst h; exact .inl ⟨by decide, by decide, by decide⟩
  · by_cases h2 : r = 45
    · subst h2; exact .inr (.inl ⟨by decide, by decide, by decide, by decide, by decide⟩)
    · refine .inr (.inr ⟨?_, ?_, ?_, ?_, ?_⟩) <;> simp [isNoteI, h, h2]
set_option maxHeartbeats 2000000 in
theorem areNotes_any (s : ByteArray) (w : World) (hsz : s.size ≤ 9223372036854775807) :
    Calls Try.prog 56 #[.string s] w fun e w' => e = .returned (.bool (notesB s)) ∧ Below w.heap.size w w' := by
  go_enter Try.func56, Try.ntmps56
  go_wp2_with fail
  go_loopw [] (fun wr => ∃ pos, pos ≤ s.size ∧ wr = w.iter s pos ∧ ((bl s).take pos).all isNote = true) (fun wr => s.size - wr.iterPos w.heap.size)
  case atStart => exact ⟨0, by omega, rfl, by simp⟩
  case round =>
    obtain ⟨pos, hpos, rfl, hall⟩ := hrel
    have HA := Lib.hid hall
    clear hall
    by_cases hp : pos < s.size
    · obtain ⟨ho, hn, hn1⟩ := rune_note s pos hp
      have hnx : ∀ ty, (Instr.next (.pointer (some ⟨w.heap.size, 0, none⟩)) true ty).run Try.prog (w.iter s pos) = _ := fun ty => run_next_any w s pos ty hp
      have HG := Lib.hid (bl_get s pos hp)
      generalize (s[pos]'hp) = c at *
      generalize ((Utf8.decode s pos).1 : Int) = r at *
      generalize (Utf8.decode s pos).2 = n at *
      have HO := Lib.hid ho
      have HN := Lib.hid hn
      clear ho hn
      rcases note_cases (r := r) with ⟨h1, h2, h3⟩ | ⟨h1, h2, h3, h4, h5⟩ | ⟨h1, h2, h3, h4, h5⟩
      · have HF := Lib.hid (HO.out.symm.trans h3)
        obtain rfl : n = 1 := HN.out HF.out
        clear h3
        go_wp2_with fail
        go_roundw
        case rel => exact ⟨pos + 1, by omega, rfl, notes_next HG.out HF.out HA.out⟩
        case measure => simp; omega
      · have HF := Lib.hid (HO.out.symm.trans h5)
        obtain rfl : n = 1 := HN.out HF.out
        clear h5
        go_wp2_with fail
        go_roundw
        case rel => exact ⟨pos + 1, by omega, rfl, notes_next HG.out HF.out HA.out⟩
        case measure => simp; omega
      · have HF := Lib.hid (HO.out.symm.trans h5)
        clear h5
        go_wp2_with fail
        go_ret
        exact ⟨by rw [notes_bad HG.out HF.out]; rfl, iter_below _ _ _⟩
    · have hnx : ∀ ty, (Instr.next (.pointer (some ⟨w.heap.size, 0, none⟩)) true ty).run Try.prog (w.iter s pos) = _ := fun ty => run_next_end w s pos ty hp
      have HP := Lib.hid (show s.size ≤ pos by omega)
      go_wp2_with fail
      go_ret
      exact ⟨by rw [notes_end HP.out HA.out]; rfl, iter_below _ _ _⟩
set_option maxHeartbeats 2000000 in
theorem isNotes_any (s : ByteArray) (w : World) (hsz : s.size ≤ 9223372036854775807) :
    Calls Try.prog 58 #[.string s] w fun e w' => e = .returned (.bool (notesB s)) ∧ w = w' := by
  go_enter Try.func58, Try.ntmps58
  go_wp2_with fail
  go_loop [3] (fun i => ∃ k : Nat, k ≤ s.size ∧ i = .int .i64 k ∧ ((bl s).take k).all isNote = true) (fun i => s.size - (intOf i).toNat)
  case atStart => exact ⟨0, by omega, rfl, by simp⟩
  case round =>
    obtain ⟨k, hk, rfl, hall⟩ := hrel
    have HA := Lib.hid hall
    clear hall
    by_cases hlt : k < s.size
    · have HG := Lib.hid (bl_get s k hlt)
      have HI := Lib.hid (note_int (s[k]'hlt))
      have hb1 : ∀ (h : k < s.size), ((s[k]'h).toNat : Int) = ((s[k]'hlt).toNat : Int) := fun _ => rfl
      generalize hc : (s[k]'hlt) = c at *
      rcases note_cases (r := (c.toNat : Int)) with ⟨h1, h2, h3⟩ | ⟨h1, h2, h3, h4, h5⟩ | ⟨h1, h2, h3, h4, h5⟩
      · have HF := Lib.hid (HI.out.symm.trans h3)
        clear h3
        go_wp2_with fail
        go_round
        case rel => exact ⟨k + 1, by omega, by go_num, notes_next HG.out HF.out HA.out⟩
        case measure => simp [intOf]; omega
      · have HF := Lib.hid (HI.out.symm.trans h5)
        clear h5
        go_wp2_with fail
        go_round
        case rel => exact ⟨k + 1, by omega, by go_num, notes_next HG.out HF.out HA.out⟩
        case measure => simp [intOf]; omega
      · have HF := Lib.hid (HI.out.symm.trans h5)
        clear h5
        go_wp2_with fail
        go_ret
        exact ⟨by rw [notes_bad HG.out HF.out]; rfl, rfl⟩
    · have HP := Lib.hid (show s.size ≤ k by omega)
      go_wp2_with fail
      go_ret
      exact ⟨by rw [notes_end HP.out HA.out]; rfl, rfl⟩
end Go.Proofs.Ytjongjndoaojnaa

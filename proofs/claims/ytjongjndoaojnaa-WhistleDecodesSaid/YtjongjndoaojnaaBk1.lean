/-
  A code turned round: the walks of turn, Back of both sides. Condition: the code can be read.
-/
import Derived.Test.YtjongjndoaojnaaRv1
import Derived.Laws.Runes
namespace Go.Proofs.Ytjongjndoaojnaa
open Go.RowKit
set_option linter.unusedVariables false

def ofL (l : List UInt8) : ByteArray := ⟨l.toArray⟩
theorem bl_ofL (l : List UInt8) : bl (ofL l) = l := by simp [bl, ofL]
theorem ofL_cons (c : UInt8) (l : List UInt8) : (⟨#[c]⟩ : ByteArray) ++ ofL l = ofL (c :: l) := by
  apply bl_inj
  rw [bl_ofL]
  unfold bl
  rw [ByteArray.data_append]
  simp [ofL]
def revB (s : ByteArray) : ByteArray := ofL (bl s).reverse
theorem rev_next {s : ByteArray} {k : Nat} {c : UInt8} (h : (bl s)[k]? = some c) : (⟨#[c]⟩ : ByteArray) ++ ofL ((bl s).take k).reverse = ofL ((bl s).take (k + 1)).reverse := by
  rw [ofL_cons, List.take_add_one, h]
  simp
theorem rev_end {s : ByteArray} {k : Nat} (hk : s.size ≤ k) : ofL ((bl s).take k).reverse = revB s := by
  unfold revB
  rw [List.take_of_length_le (by rw [bl_len]; exact hk)]
theorem Try.conv46 (w : World) : (convert 21 9 (.int .i32 46)).run Try.prog w = .ok (.string ⟨#[46]⟩) w := by kernel_rfl
theorem Try.conv45 (w : World) : (convert 21 9 (.int .i32 45)).run Try.prog w = .ok (.string ⟨#[45]⟩) w := by kernel_rfl
theorem note_u8 {c : UInt8} (h : isNote c = true) : (c = 46 ∧ (c.toNat : Int) = 46) ∨ (c = 45 ∧ (c.toNat : Int) = 45) := by
  unfold isNote at h
  simp only [Bool.or_eq_true, decide_eq_true_eq] at h
  rcases h with h | h
  · exact .inl ⟨UInt8.toNat_inj.1 h, by omega⟩
  · exact .inr ⟨UInt8.toNat_inj.1 h, by omega⟩
theorem notes_at {s : ByteArray} (h : notesB s = true) {k : Nat} {c : UInt8} (hk : (bl s)[k]? = some c) : isNote c = true := List.all_eq_true.1 h c (List.mem_of_getElem? hk)
set_option maxRecDepth 4000 in
set_option maxHeartbeats 2000000 in
theorem turn_any (s : ByteArray) (w : World) (hn : notesB s = true) (hsz : s.size ≤ 1000) :
    Calls Try.prog 74 #[.string s] w fun e w' => e = .returned (.string (revB s)) ∧ Below w.heap.size w w' := by
  have HN := Lib.hid hn
  have HC6 := Lib.hid Try.conv46
  have HC5 := Lib.hid Try.conv45
  clear hn
  go_enter Try.func74, Try.ntmps74
  go_wp2_with fail
  go_loopw [3] (fun v wr => ∃ pos, pos ≤ s.size ∧ wr = w.iter s pos ∧ v = .string (ofL ((bl s).take pos).reverse)) (fun _ wr => s.size - wr.iterPos w.heap.size)
  case atStart => exact ⟨0, by omega, rfl, rfl⟩
  case round =>
    obtain ⟨pos, hpos, rfl, rfl⟩ := hrel
    by_cases hp : pos < s.size
    · have hnx : ∀ ty, (Instr.next (.pointer (some ⟨w.heap.size, 0, none⟩)) true ty).run Try.prog (w.iter s pos) = _ := fun ty => run_next_any w s pos ty hp
      have hg := bl_get s pos hp
      have hc := notes_at HN.out hg
      obtain ⟨ho, hn, hn1⟩ := rune_note s pos hp
      have hn2 := hn hc
      have hdec := decode_ascii s pos hp (by rcases note_u8 hc with ⟨h, _⟩ | ⟨h, _⟩ <;> rw [h] <;> decide)
      have hr := congrArg (fun x => ((x.1 : Nat) : Int)) hdec
      simp only at hr
      have HX := Lib.hid (rev_next hg)
      have HU := Lib.hid (note_u8 hc)
      generalize (s[pos]'hp) = c at *
      generalize ((Utf8.decode s pos).1 : Int) = r at *
      generalize (Utf8.decode s pos).2 = n at *
      subst hn2
      clear ho hn hn1 hg hc hdec
      have hts : (ofL ((bl s).take pos).reverse).size ≤ 1000 := by
        rw [← bl_len, bl_ofL, List.length_reverse, List.length_take, bl_len]; omega
      generalize ofL ((bl s).take pos).reverse = t at *
      have hz6 : (⟨#[46]⟩ : ByteArray).size = 1 := rfl
      have hz5 : (⟨#[45]⟩ : ByteArray).size = 1 := rfl
      rcases HU.out with ⟨rfl, h2⟩ | ⟨rfl, h2⟩
      · obtain rfl : r = 46 := by rw [hr]; exact h2
        have hcv := HC6.out
        clear hr h2 HU
        go_wp2_with fail
        go_roundw
        case rel => exact ⟨pos + 1, by omega, rfl, by rw [← HX.out]⟩
        case measure => simp; omega
      · obtain rfl : r = 45 := by rw [hr]; exact h2
        have hcv := HC5.out
        clear hr h2 HU
        go_wp2_with fail
        go_roundw
        case rel => exact ⟨pos + 1, by omega, rfl, by rw [← HX.out]⟩
        case measure => simp; omega
    · have hnx : ∀ ty, (Instr.next (.pointer (some ⟨w.heap.size, 0, none⟩)) true ty).run Try.prog (w.iter s pos) = _ := fun ty => run_next_end w s pos ty hp
      have HP := Lib.hid (rev_end (s := s) (k := pos) (by omega))
      generalize ofL ((bl s).take pos).reverse = t at *
      go_wp2_with fail
      go_ret
      exact ⟨by rw [← HP.out]; rfl, iter_below _ _ _⟩
end Go.Proofs.Ytjongjndoaojnaa

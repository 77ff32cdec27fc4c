/-
  Texts merged into one (Str, Dig): contracts of the functions of package lure, what is reckoned of games. Conditions: as each says.
-/
import Derived.Test.YtoenecgjiejljaaDoorMt3
import Derived.Test.YtoenecgjiejljaaDoorProg
import Derived.WalkKit
import Derived.WalkLawsBesides
import Derived.WalkSpells
import Derived.Handy
import Derived.Laws.RangeAny
namespace Go.Proofs.YtoenecgjiejljaaDoor
open Go.RowKit
set_option linter.unusedVariables false

/-- The byte at a place. -/
def bAt (s : ByteArray) (i : Nat) : Int := ((s.data.toList.getD i 0).toNat : Int)
def isUp (b : Int) : Bool := decide (65 ≤ b) && decide (b ≤ 90)
def isNum (b : Int) : Bool := decide (48 ≤ b) && decide (b ≤ 57)
/-- Is the byte at place i right, in a text with k letters? -/
def okAt (worn : Bool) (k i : Int) (b : Int) : Bool := (if i < k then isUp b else isNum b) || (worn && decide (b = 63))
def formB (s : ByteArray) (worn : Bool) : Bool := (decide (s.size = 7) || decide (s.size = 8)) && (List.range s.size).all fun i => okAt worn (s.size - 6) i (bAt s i)

theorem isLetter_any (r : Int) (w : World) : Calls Tryd.prog 106 #[.int .i32 r] w fun e w' => e = .returned (.bool (isUp r)) ∧ w = w' := by
  by_cases h : 65 ≤ r
  · have h1 : decide (65 ≤ r) = true := by simpa using h
    have hu : isUp r = decide (r ≤ 90) := by simp [isUp, h]
    have HU := Lib.hid hu
    clear hu
    go_enter Tryd.func106, Tryd.ntmps106
    go_wp2
    go_ret
    exact ⟨by rw [HU.out]; rfl, rfl⟩
  · have h1 : decide (65 ≤ r) = false := by simpa using h
    have hu : isUp r = false := by simp [isUp, h]
    have HU := Lib.hid hu
    clear hu
    go_enter Tryd.func106, Tryd.ntmps106
    go_wp2
    go_ret
    exact ⟨by rw [HU.out]; rfl, rfl⟩
/-! ### hasForm -/
theorem bAt_get (s : ByteArray) (i : Nat) (h : i < s.size) : bAt s i = ((s[i]'h).toNat : Int) := by
  unfold bAt
  rw [List.getD_eq_getElem?_getD, List.getElem?_eq_getElem (by simpa using h)]
  rfl
theorem okAt_high {worn : Bool} {k i r : Int} (h : 128 ≤ r) : okAt worn k i r = false := by
  unfold okAt isUp isNum
  split <;> simp <;> omega
/-- What a range over a text hands out at a place: right exactly if the byte there is; then the next place is the next byte. -/
theorem rune_at (s : ByteArray) (pos : Nat) (h : pos < s.size) (worn : Bool) (k : Int) :
    okAt worn k pos ((Utf8.decode s pos).1 : Int) = okAt worn k pos (bAt s pos) ∧ (okAt worn k pos (bAt s pos) = true → (Utf8.decode s pos).2 = 1) ∧ (0 : Int) ≤ ((Utf8.decode s pos).1 : Int) ∧ 1 ≤ (Utf8.decode s pos).2 := by
  rw [bAt_get s pos h]
  by_cases ha : (s[pos]'h).toNat < 128
  · rw [decode_ascii s pos h ha]
    exact ⟨rfl, fun _ => rfl, by simp, Nat.le_refl _⟩
  · have hh := decode_high s pos h (by omega)
    have h1 : okAt worn k pos ((s[pos]'h).toNat : Int) = false := okAt_high (by omega)
    rw [h1, okAt_high (by omega)]
    exact ⟨rfl, (fun h => by cases h), by omega, hh.2⟩
theorem formB_size {s : ByteArray} {worn : Bool} (h7 : s.size ≠ 7) (h8 : s.size ≠ 8) : formB s worn = false := by simp [formB, h7, h8]
theorem formB_bad {s : ByteArray} {worn : Bool} {pos : Nat} (h : pos < s.size) (hb : okAt worn (s.size - 6) pos (bAt s pos) = false) : formB s worn = false := by
  simp only [formB, Bool.and_eq_false_iff]
  right
  rw [List.all_eq_false]
  exact ⟨pos, List.mem_range.2 h, by simp [hb]⟩
theorem formB_ok {s : ByteArray} {worn : Bool} (hs : s.size = 7 ∨ s.size = 8) (hb : ∀ i, i < s.size → okAt worn (s.size - 6) i (bAt s i) = true) : formB s worn = true := by
  simp only [formB, Bool.and_eq_true, Bool.or_eq_true, decide_eq_true_eq]
  exact ⟨hs, List.all_eq_true.2 fun i hi => hb i (List.mem_range.1 hi)⟩
theorem iter_below (w : World) (s : ByteArray) (pos : Nat) : Below w.heap.size w (w.iter s pos) := (Below.refl _ _).alloc (Nat.le_refl _) _
set_option maxHeartbeats 4000000 in
theorem hasForm_false (s : ByteArray) (w : World) (hsz : s.size ≤ 9223372036854775807) :
    Calls Tryd.prog 54 #[.string s, .bool false] w fun e w' => e = .returned (.bool (formB s false)) ∧ Below w.heap.size w w' := by
  by_cases h7 : s.size < 7
  · have h1 : decide ((s.size : Int) - 6 < 1) = true := by simp; omega
    rw [formB_size (by omega) (by omega)]
    go_enter Tryd.func54, Tryd.ntmps54
    go_wp2
    go_ret
    exact ⟨rfl, Below.refl _ _⟩
  by_cases h8 : 8 < s.size
  · have h1 : decide ((s.size : Int) - 6 < 1) = false := by simp; omega
    have h2 : decide (2 < (s.size : Int) - 6) = true := by simp; omega
    rw [formB_size (by omega) (by omega)]
    go_enter Tryd.func54, Tryd.ntmps54
    go_wp2
    go_ret
    exact ⟨rfl, Below.refl _ _⟩
  have h1 : decide ((s.size : Int) - 6 < 1) = false := by simp; omega
  have h2 : decide (2 < (s.size : Int) - 6) = false := by simp; omega
  have HS := Lib.hid (show s.size = 7 ∨ s.size = 8 by omega)
  go_enter Tryd.func54, Tryd.ntmps54
  go_wp2
  clear h1 h2
  go_loopw [] (fun wr => ∃ pos, pos ≤ s.size ∧ wr = w.iter s pos ∧ ∀ i, i < pos → okAt false (s.size - 6) i (bAt s i) = true) (fun wr => s.size - wr.iterPos w.heap.size)
  case atStart => exact ⟨0, by omega, rfl, fun i hi => by omega⟩
  case round =>
    obtain ⟨pos, hpos, rfl, hall⟩ := hrel
    have HA := Lib.hid hall
    clear hall
    by_cases hp : pos < s.size
    · obtain ⟨ho, hn, hr0, hn1⟩ := rune_at s pos hp false ((s.size : Int) - 6)
      have hnx : ∀ ty, (Instr.next (.pointer (some ⟨w.heap.size, 0, none⟩)) true ty).run Tryd.prog (w.iter s pos) = _ := fun ty => run_next_any w s pos ty hp
      generalize ((Utf8.decode s pos).1 : Int) = r at *
      generalize (Utf8.decode s pos).2 = n at *
      have HO := Lib.hid ho
      have HN := Lib.hid hn
      clear ho hn
      by_cases hk : (pos : Int) < (s.size : Int) - 6
      · have hk' : decide ((pos : Int) < (s.size : Int) - 6) = true := by simpa using hk
        have HK := Lib.hid hk
        by_cases h48 : 48 ≤ r
        · have h48' : decide (48 ≤ r) = true := by simpa using h48
          cases hu : isUp r
          · have HF := Lib.hid (show okAt false ((s.size : Int) - 6) pos r = false by unfold okAt; rw [if_pos HK.out]; simp [hu])
            go_wp2_with (go_at_call 106; refine (isLetter_any r _).mono ?_; rintro e w' ⟨rfl, rfl⟩)
            go_ret
            exact ⟨by rw [formB_bad hp (HO.out.symm.trans HF.out)]; rfl, iter_below _ _ _⟩
          · have HF := Lib.hid (show okAt false ((s.size : Int) - 6) pos r = true by unfold okAt; rw [if_pos HK.out]; simp [hu])
            obtain rfl : n = 1 := HN.out (HO.out.symm.trans HF.out)
            go_wp2_with (go_at_call 106; refine (isLetter_any r _).mono ?_; rintro e w' ⟨rfl, rfl⟩)
            go_roundw
            case rel => exact ⟨pos + 1, by omega, rfl, fun i hi => by
              rcases Nat.lt_or_ge i pos with h | h
              · exact HA.out i h
              · obtain rfl : i = pos := by omega
                exact HO.out.symm.trans HF.out⟩
            case measure => simp; omega
        · have h48' : decide (48 ≤ r) = false := by simpa using h48
          cases hu : isUp r
          · have HF := Lib.hid (show okAt false ((s.size : Int) - 6) pos r = false by unfold okAt; rw [if_pos HK.out]; simp [hu])
            go_wp2_with (go_at_call 106; refine (isLetter_any r _).mono ?_; rintro e w' ⟨rfl, rfl⟩)
            go_ret
            exact ⟨by rw [formB_bad hp (HO.out.symm.trans HF.out)]; rfl, iter_below _ _ _⟩
          · have HF := Lib.hid (show okAt false ((s.size : Int) - 6) pos r = true by unfold okAt; rw [if_pos HK.out]; simp [hu])
            obtain rfl : n = 1 := HN.out (HO.out.symm.trans HF.out)
            go_wp2_with (go_at_call 106; refine (isLetter_any r _).mono ?_; rintro e w' ⟨rfl, rfl⟩)
            go_roundw
            case rel => exact ⟨pos + 1, by omega, rfl, fun i hi => by
              rcases Nat.lt_or_ge i pos with h | h
              · exact HA.out i h
              · obtain rfl : i = pos := by omega
                exact HO.out.symm.trans HF.out⟩
            case measure => simp; omega
      · have hk' : decide ((pos : Int) < (s.size : Int) - 6) = false := by simpa using hk
        have HK := Lib.hid hk
        by_cases h48 : 48 ≤ r
        · have h48' : decide (48 ≤ r) = true := by simpa using h48
          cases h57 : decide (r ≤ 57)
          · have hN := Lib.hid (show isNum r = false by simp only [isNum, h57, Bool.and_false])
            have HF := Lib.hid (show okAt false ((s.size : Int) - 6) pos r = false by unfold okAt; rw [if_neg HK.out]; simp [hN.out])
            go_wp2_with (go_at_call 106; refine (isLetter_any r _).mono ?_; rintro e w' ⟨rfl, rfl⟩)
            go_ret
            exact ⟨by rw [formB_bad hp (HO.out.symm.trans HF.out)]; rfl, iter_below _ _ _⟩
          · have hN := Lib.hid (show isNum r = true by simp only [isNum, h57, h48', Bool.and_true])
            have HF := Lib.hid (show okAt false ((s.size : Int) - 6) pos r = true by unfold okAt; rw [if_neg HK.out]; simp [hN.out])
            obtain rfl : n = 1 := HN.out (HO.out.symm.trans HF.out)
            go_wp2_with (go_at_call 106; refine (isLetter_any r _).mono ?_; rintro e w' ⟨rfl, rfl⟩)
            go_roundw
            case rel => exact ⟨pos + 1, by omega, rfl, fun i hi => by
              rcases Nat.lt_or_ge i pos with h | h
              · exact HA.out i h
              · obtain rfl : i = pos := by omega
                exact HO.out.symm.trans HF.out⟩
            case measure => simp; omega
        · have h48' : decide (48 ≤ r) = false := by simpa using h48
          have hN := Lib.hid (show isNum r = false by simp only [isNum, h48', Bool.false_and])
          have HF := Lib.hid (show okAt false ((s.size : Int) - 6) pos r = false by unfold okAt; rw [if_neg HK.out]; simp [hN.out])
          go_wp2_with (go_at_call 106; refine (isLetter_any r _).mono ?_; rintro e w' ⟨rfl, rfl⟩)
          go_ret
          exact ⟨by rw [formB_bad hp (HO.out.symm.trans HF.out)]; rfl, iter_below _ _ _⟩
    · have hnx : ∀ ty, (Instr.next (.pointer (some ⟨w.heap.size, 0, none⟩)) true ty).run Tryd.prog (w.iter s pos) = _ := fun ty => run_next_end w s pos ty hp
      have hps : pos = s.size := by omega
      have HP := Lib.hid hps
      clear hps
      go_wp2
      go_ret
      exact ⟨by rw [formB_ok HS.out (fun i hi => HA.out i (by rw [HP.out]; exact hi))]; rfl, iter_below _ _ _⟩
set_option maxHeartbeats 4000000 in
theorem hasForm_true (s : ByteArray) (w : World) (hsz : s.size ≤ 9223372036854775807) :
    Calls Tryd.prog 54 #[.string s, .bool true] w fun e w' => e = .returned (.bool (formB s true)) ∧ Below w.heap.size w w' := by
  by_cases h7 : s.size < 7
  · have h1 : decide ((s.size : Int) - 6 < 1) = true := by simp; omega
    rw [formB_size (by omega) (by omega)]
    go_enter Tryd.func54, Tryd.ntmps54
    go_wp2
    go_ret
    exact ⟨rfl, Below.refl _ _⟩
  by_cases h8 : 8 < s.size
  · have h1 : decide ((s.size : Int) - 6 < 1) = false := by simp; omega
    have h2 : decide (2 < (s.size : Int) - 6) = true := by simp; omega
    rw [formB_size (by omega) (by omega)]
    go_enter Tryd.func54, Tryd.ntmps54
    go_wp2
    go_ret
    exact ⟨rfl, Below.refl _ _⟩
  have h1 : decide ((s.size : Int) - 6 < 1) = false := by simp; omega
  have h2 : decide (2 < (s.size : Int) - 6) = false := by simp; omega
  have HS := Lib.hid (show s.size = 7 ∨ s.size = 8 by omega)
  go_enter Tryd.func54, Tryd.ntmps54
  go_wp2
  clear h1 h2
  go_loopw [] (fun wr => ∃ pos, pos ≤ s.size ∧ wr = w.iter s pos ∧ ∀ i, i < pos → okAt true (s.size - 6) i (bAt s i) = true) (fun wr => s.size - wr.iterPos w.heap.size)
  case atStart => exact ⟨0, by omega, rfl, fun i hi => by omega⟩
  case round =>
    obtain ⟨pos, hpos, rfl, hall⟩ := hrel
    have HA := Lib.hid hall
    clear hall
    by_cases hp : pos < s.size
    · obtain ⟨ho, hn, hr0, hn1⟩ := rune_at s pos hp true ((s.size : Int) - 6)
      have hnx : ∀ ty, (Instr.next (.pointer (some ⟨w.heap.size, 0, none⟩)) true ty).run Tryd.prog (w.iter s pos) = _ := fun ty => run_next_any w s pos ty hp
      generalize ((Utf8.decode s pos).1 : Int) = r at *
      generalize (Utf8.decode s pos).2 = n at *
      have HO := Lib.hid ho
      have HN := Lib.hid hn
      clear ho hn
      by_cases hk : (pos : Int) < (s.size : Int) - 6
      · have hk' : decide ((pos : Int) < (s.size : Int) - 6) = true := by simpa using hk
        have HK := Lib.hid hk
        by_cases h48 : 48 ≤ r
        · have h48' : decide (48 ≤ r) = true := by simpa using h48
          cases hu : isUp r
          · by_cases hq : r = 63
            · have hq' : (r == 63) = true := by simpa using hq
              have HQ := Lib.hid hq
              clear hq
              have HF := Lib.hid (show okAt true ((s.size : Int) - 6) pos r = true by unfold okAt; rw [if_pos HK.out]; simp [HQ.out])
              obtain rfl : n = 1 := HN.out (HO.out.symm.trans HF.out)
              go_wp2_with (go_at_call 106; refine (isLetter_any r _).mono ?_; rintro e w' ⟨rfl, rfl⟩)
              go_roundw
              case rel => exact ⟨pos + 1, by omega, rfl, fun i hi => by
                rcases Nat.lt_or_ge i pos with h | h
                · exact HA.out i h
                · obtain rfl : i = pos := by omega
                  exact HO.out.symm.trans HF.out⟩
              case measure => simp; omega
            · have hq' : (r == 63) = false := by simpa using hq
              have HQ := Lib.hid hq
              clear hq
              have HF := Lib.hid (show okAt true ((s.size : Int) - 6) pos r = false by unfold okAt; rw [if_pos HK.out]; have := HQ.out; simp [hu, this])
              go_wp2_with (go_at_call 106; refine (isLetter_any r _).mono ?_; rintro e w' ⟨rfl, rfl⟩)
              go_ret
              exact ⟨by rw [formB_bad hp (HO.out.symm.trans HF.out)]; rfl, iter_below _ _ _⟩
          · have HF := Lib.hid (show okAt true ((s.size : Int) - 6) pos r = true by unfold okAt; rw [if_pos HK.out]; simp [hu])
            obtain rfl : n = 1 := HN.out (HO.out.symm.trans HF.out)
            go_wp2_with (go_at_call 106; refine (isLetter_any r _).mono ?_; rintro e w' ⟨rfl, rfl⟩)
            go_roundw
            case rel => exact ⟨pos + 1, by omega, rfl, fun i hi => by
              rcases Nat.lt_or_ge i pos with h | h
              · exact HA.out i h
              · obtain rfl : i = pos := by omega
                exact HO.out.symm.trans HF.out⟩
            case measure => simp; omega
        · have h48' : decide (48 ≤ r) = false := by simpa using h48
          cases hu : isUp r
          · by_cases hq : r = 63
            · have hq' : (r == 63) = true := by simpa using hq
              have HQ := Lib.hid hq
              clear hq
              have HF := Lib.hid (show okAt true ((s.size : Int) - 6) pos r = true by unfold okAt; rw [if_pos HK.out]; simp [HQ.out])
              obtain rfl : n = 1 := HN.out (HO.out.symm.trans HF.out)
              go_wp2_with (go_at_call 106; refine (isLetter_any r _).mono ?_; rintro e w' ⟨rfl, rfl⟩)
              go_roundw
              case rel => exact ⟨pos + 1, by omega, rfl, fun i hi => by
                rcases Nat.lt_or_ge i pos with h | h
                · exact HA.out i h
                · obtain rfl : i = pos := by omega
                  exact HO.out.symm.trans HF.out⟩
              case measure => simp; omega
            · have hq' : (r == 63) = false := by simpa using hq
              have HQ := Lib.hid hq
              clear hq
              have HF := Lib.hid (show okAt true ((s.size : Int) - 6) pos r = false by unfold okAt; rw [if_pos HK.out]; have := HQ.out; simp [hu, this])
              go_wp2_with (go_at_call 106; refine (isLetter_any r _).mono ?_; rintro e w' ⟨rfl, rfl⟩)
              go_ret
              exact ⟨by rw [formB_bad hp (HO.out.symm.trans HF.out)]; rfl, iter_below _ _ _⟩
          · have HF := Lib.hid (show okAt true ((s.size : Int) - 6) pos r = true by unfold okAt; rw [if_pos HK.out]; simp [hu])
            obtain rfl : n = 1 := HN.out (HO.out.symm.trans HF.out)
            go_wp2_with (go_at_call 106; refine (isLetter_any r _).mono ?_; rintro e w' ⟨rfl, rfl⟩)
            go_roundw
            case rel => exact ⟨pos + 1, by omega, rfl, fun i hi => by
              rcases Nat.lt_or_ge i pos with h | h
              · exact HA.out i h
              · obtain rfl : i = pos := by omega
                exact HO.out.symm.trans HF.out⟩
            case measure => simp; omega
      · have hk' : decide ((pos : Int) < (s.size : Int) - 6) = false := by simpa using hk
        have HK := Lib.hid hk
        by_cases h48 : 48 ≤ r
        · have h48' : decide (48 ≤ r) = true := by simpa using h48
          cases h57 : decide (r ≤ 57)
          · have hN := Lib.hid (show isNum r = false by simp only [isNum, h57, Bool.and_false])
            by_cases hq : r = 63
            · have hq' : (r == 63) = true := by simpa using hq
              have HQ := Lib.hid hq
              clear hq
              have HF := Lib.hid (show okAt true ((s.size : Int) - 6) pos r = true by unfold okAt; rw [if_neg HK.out]; simp [HQ.out])
              obtain rfl : n = 1 := HN.out (HO.out.symm.trans HF.out)
              go_wp2_with (go_at_call 106; refine (isLetter_any r _).mono ?_; rintro e w' ⟨rfl, rfl⟩)
              go_roundw
              case rel => exact ⟨pos + 1, by omega, rfl, fun i hi => by
                rcases Nat.lt_or_ge i pos with h | h
                · exact HA.out i h
                · obtain rfl : i = pos := by omega
                  exact HO.out.symm.trans HF.out⟩
              case measure => simp; omega
            · have hq' : (r == 63) = false := by simpa using hq
              have HQ := Lib.hid hq
              clear hq
              have HF := Lib.hid (show okAt true ((s.size : Int) - 6) pos r = false by unfold okAt; rw [if_neg HK.out]; have := HQ.out; simp [hN.out, this])
              go_wp2_with (go_at_call 106; refine (isLetter_any r _).mono ?_; rintro e w' ⟨rfl, rfl⟩)
              go_ret
              exact ⟨by rw [formB_bad hp (HO.out.symm.trans HF.out)]; rfl, iter_below _ _ _⟩
          · have hN := Lib.hid (show isNum r = true by simp only [isNum, h57, h48', Bool.and_true])
            have HF := Lib.hid (show okAt true ((s.size : Int) - 6) pos r = true by unfold okAt; rw [if_neg HK.out]; simp [hN.out])
            obtain rfl : n = 1 := HN.out (HO.out.symm.trans HF.out)
            go_wp2_with (go_at_call 106; refine (isLetter_any r _).mono ?_; rintro e w' ⟨rfl, rfl⟩)
            go_roundw
            case rel => exact ⟨pos + 1, by omega, rfl, fun i hi => by
              rcases Nat.lt_or_ge i pos with h | h
              · exact HA.out i h
              · obtain rfl : i = pos := by omega
                exact HO.out.symm.trans HF.out⟩
            case measure => simp; omega
        · have h48' : decide (48 ≤ r) = false := by simpa using h48
          have hN := Lib.hid (show isNum r = false by simp only [isNum, h48', Bool.false_and])
          by_cases hq : r = 63
          · have hq' : (r == 63) = true := by simpa using hq
            have HQ := Lib.hid hq
            clear hq
            have HF := Lib.hid (show okAt true ((s.size : Int) - 6) pos r = true by unfold okAt; rw [if_neg HK.out]; simp [HQ.out])
            obtain rfl : n = 1 := HN.out (HO.out.symm.trans HF.out)
            go_wp2_with (go_at_call 106; refine (isLetter_any r _).mono ?_; rintro e w' ⟨rfl, rfl⟩)
            go_roundw
            case rel => exact ⟨pos + 1, by omega, rfl, fun i hi => by
              rcases Nat.lt_or_ge i pos with h | h
              · exact HA.out i h
              · obtain rfl : i = pos := by omega
                exact HO.out.symm.trans HF.out⟩
            case measure => simp; omega
          · have hq' : (r == 63) = false := by simpa using hq
            have HQ := Lib.hid hq
            clear hq
            have HF := Lib.hid (show okAt true ((s.size : Int) - 6) pos r = false by unfold okAt; rw [if_neg HK.out]; have := HQ.out; simp [hN.out, this])
            go_wp2_with (go_at_call 106; refine (isLetter_any r _).mono ?_; rintro e w' ⟨rfl, rfl⟩)
            go_ret
            exact ⟨by rw [formB_bad hp (HO.out.symm.trans HF.out)]; rfl, iter_below _ _ _⟩
    · have hnx : ∀ ty, (Instr.next (.pointer (some ⟨w.heap.size, 0, none⟩)) true ty).run Tryd.prog (w.iter s pos) = _ := fun ty => run_next_end w s pos ty hp
      have hps : pos = s.size := by omega
      have HP := Lib.hid hps
      clear hps
      go_wp2
      go_ret
      exact ⟨by rw [formB_ok HS.out (fun i hi => HA.out i (by rw [HP.out]; exact hi))]; rfl, iter_below _ _ _⟩
theorem hasForm_any (s : ByteArray) (worn : Bool) (w : World) (hsz : s.size ≤ 9223372036854775807) :
    Calls Tryd.prog 54 #[.string s, .bool worn] w fun e w' => e = .returned (.bool (formB s worn)) ∧ Below w.heap.size w w' := by
  cases worn
  · exact hasForm_false s w hsz
  · exact hasForm_true s w hsz
end Go.Proofs.YtoenecgjiejljaaDoor
namespace Go.Proofs.YtoenecgjiejljaaDoor

/-- The product of two digits. -/
def mulD (x y : Int) : Int :=
  if x < 5 then (if y < 5 then (x + y) % 5 else 5 + (x + y - 5) % 5)
  else (if y < 5 then 5 + (x - 5 - y) % 5 else (x - y) % 5)
/-- The inverse. -/
def invD (x : Int) : Int := if x < 5 then (5 - x) % 5 else x
/-- The turn. -/
def trnD (x : Int) : Int :=
  if x = 0 then 1 else if x = 1 then 5 else if x = 2 then 7 else if x = 3 then 6 else if x = 4 then 2 else
  if x = 5 then 8 else if x = 6 then 3 else if x = 7 then 0 else if x = 8 then 9 else 4
def turnN : Nat → Int → Int
  | 0, x => x
  | k + 1, x => trnD (turnN k x)
/-- The sum of a list of digits. -/
def sumL : List Int → Int
  | [] => 0
  | d :: l => mulD (sumL l) (turnN l.length d)

def Dig (x : Int) : Prop := 0 ≤ x ∧ x ≤ 9
def isDig (x : Int) : Bool := decide (0 ≤ x) && decide (x ≤ 9)
theorem isDig_iff {x : Int} : isDig x = true ↔ Dig x := by simp [isDig, Dig]
theorem isDig_not {x : Int} : isDig x = false ↔ (x < 0 ∨ 9 < x) := by
  unfold isDig; simp; omega
theorem Dig.fin {x : Int} (h : Dig x) : ∃ i : Fin 10, x = (i.val : Int) := by
  obtain ⟨a, b⟩ := h
  exact ⟨⟨x.toNat, by omega⟩, by simp; omega⟩
theorem dig_mul {x y : Int} (hx : Dig x) (hy : Dig y) : Dig (mulD x y) := by
  obtain ⟨a, b⟩ := hx; obtain ⟨c, d⟩ := hy
  unfold Dig mulD; split <;> split <;> omega
theorem dig_inv {x : Int} (hx : Dig x) : Dig (invD x) := by
  unfold Dig at *; unfold invD; split <;> omega
theorem dig_trn (x : Int) : Dig (trnD x) := by
  unfold Dig trnD; repeat' split
  all_goals omega
theorem dig_turn {x : Int} (hx : Dig x) (k : Nat) : Dig (turnN k x) := by
  cases k with
  | zero => exact hx
  | succ k => exact dig_trn _
theorem dig_sum {l : List Int} (h : ∀ d ∈ l, Dig d) : Dig (sumL l) := by
  induction l with
  | nil => exact ⟨by decide, by decide⟩
  | cons d l ih => exact dig_mul (ih fun x hx => h x (List.mem_cons_of_mem _ hx)) (dig_turn (h d List.mem_cons_self) _)

theorem assoc_fin : ∀ x y z : Fin 10, mulD (mulD x.val y.val) z.val = mulD x.val (mulD y.val z.val) := by decide +kernel
theorem one_fin : ∀ x : Fin 10, mulD 0 x.val = x.val ∧ mulD x.val 0 = x.val ∧ mulD (invD x.val) x.val = 0 ∧ mulD x.val (invD x.val) = 0 := by decide +kernel
theorem inv_fin : ∀ x y : Fin 10, (mulD x.val y.val = 0 ↔ (y.val : Int) = invD x.val) := by decide +kernel
theorem trn_fin : ∀ x y : Fin 10, trnD x.val = trnD y.val → x = y := by decide +kernel
theorem swap_fin : ∀ x y : Fin 10, mulD x.val (trnD y.val) = mulD y.val (trnD x.val) → x = y := by decide +kernel

theorem mul_assoc' {x y z : Int} (hx : Dig x) (hy : Dig y) (hz : Dig z) : mulD (mulD x y) z = mulD x (mulD y z) := by
  obtain ⟨i, rfl⟩ := hx.fin; obtain ⟨j, rfl⟩ := hy.fin; obtain ⟨k, rfl⟩ := hz.fin
  exact assoc_fin i j k
theorem one_mul' {x : Int} (hx : Dig x) : mulD 0 x = x := by obtain ⟨i, rfl⟩ := hx.fin; exact (one_fin i).1
theorem mul_one' {x : Int} (hx : Dig x) : mulD x 0 = x := by obtain ⟨i, rfl⟩ := hx.fin; exact (one_fin i).2.1
theorem inv_mul {x : Int} (hx : Dig x) : mulD (invD x) x = 0 := by obtain ⟨i, rfl⟩ := hx.fin; exact (one_fin i).2.2.1
theorem mul_inv {x : Int} (hx : Dig x) : mulD x (invD x) = 0 := by obtain ⟨i, rfl⟩ := hx.fin; exact (one_fin i).2.2.2
theorem mul_eq_zero {x y : Int} (hx : Dig x) (hy : Dig y) : mulD x y = 0 ↔ y = invD x := by
  obtain ⟨i, rfl⟩ := hx.fin; obtain ⟨j, rfl⟩ := hy.fin; exact inv_fin i j
theorem cancel_left {x y z : Int} (hx : Dig x) (hy : Dig y) (hz : Dig z) (h : mulD x y = mulD x z) : y = z := by
  have e := congrArg (mulD (invD x)) h
  rwa [← mul_assoc' (dig_inv hx) hx hy, ← mul_assoc' (dig_inv hx) hx hz, inv_mul hx, one_mul' hy, one_mul' hz] at e
theorem cancel_right {x y z : Int} (hx : Dig x) (hy : Dig y) (hz : Dig z) (h : mulD y x = mulD z x) : y = z := by
  have e : mulD (mulD y x) (invD x) = mulD (mulD z x) (invD x) := by rw [h]
  rwa [mul_assoc' hy hx (dig_inv hx), mul_assoc' hz hx (dig_inv hx), mul_inv hx, mul_one' hy, mul_one' hz] at e
theorem trn_inj {x y : Int} (hx : Dig x) (hy : Dig y) (h : trnD x = trnD y) : x = y := by
  obtain ⟨i, rfl⟩ := hx.fin; obtain ⟨j, rfl⟩ := hy.fin; rw [trn_fin i j h]
theorem turn_inj {x y : Int} (hx : Dig x) (hy : Dig y) : ∀ k, turnN k x = turnN k y → x = y
  | 0, h => h
  | k + 1, h => turn_inj hx hy k (trn_inj (dig_turn hx k) (dig_turn hy k) h)
theorem swap_ne {x y : Int} (hx : Dig x) (hy : Dig y) (h : mulD x (trnD y) = mulD y (trnD x)) : x = y := by
  obtain ⟨i, rfl⟩ := hx.fin; obtain ⟨j, rfl⟩ := hy.fin; rw [swap_fin i j h]

/-- What stands ahead of a list multiplies from the right. -/
def sumA : List Int → Nat → Int
  | [], _ => 0
  | d :: l, k => mulD (sumA l k) (turnN (l.length + k) d)
theorem dig_sumA {l : List Int} (h : ∀ d ∈ l, Dig d) (k : Nat) : Dig (sumA l k) := by
  induction l with
  | nil => exact ⟨by simp [sumA], by simp [sumA]⟩
  | cons d l ih => exact dig_mul (ih fun x hx => h x (List.mem_cons_of_mem _ hx)) (dig_turn (h d List.mem_cons_self) _)
theorem sum_append {a l : List Int} (ha : ∀ d ∈ a, Dig d) (hl : ∀ d ∈ l, Dig d) : sumL (a ++ l) = mulD (sumL l) (sumA a l.length) := by
  induction a with
  | nil => simp [sumA, mul_one' (dig_sum hl)]
  | cons d a ih =>
    have ha' : ∀ x ∈ a, Dig x := fun x hx => ha x (List.mem_cons_of_mem _ hx)
    simp only [List.cons_append, sumL, sumA, List.length_append]
    rw [ih ha', mul_assoc' (dig_sum hl) (dig_sumA ha' _) (dig_turn (ha d List.mem_cons_self) _)]

/-- A wrong digit changes the sum. -/
theorem sum_wrong {a l : List Int} {d e : Int} (ha : ∀ x ∈ a, Dig x) (hl : ∀ x ∈ l, Dig x) (hd : Dig d) (he : Dig e) (h : sumL (a ++ d :: l) = sumL (a ++ e :: l)) : d = e := by
  have h1 : ∀ x ∈ d :: l, Dig x := fun x hx => by rcases List.mem_cons.1 hx with rfl | hx; exact hd; exact hl x hx
  have h2 : ∀ x ∈ e :: l, Dig x := fun x hx => by rcases List.mem_cons.1 hx with rfl | hx; exact he; exact hl x hx
  rw [sum_append ha h1, sum_append ha h2] at h
  simp only [List.length_cons] at h
  have h3 := cancel_right (dig_sumA ha _) (dig_sum h1) (dig_sum h2) h
  exact turn_inj hd he _ (cancel_left (dig_sum hl) (dig_turn hd _) (dig_turn he _) h3)
/-- Two different neighbors exchanged change the sum. -/
theorem sum_swap {a l : List Int} {d e : Int} (ha : ∀ x ∈ a, Dig x) (hl : ∀ x ∈ l, Dig x) (hd : Dig d) (he : Dig e) (h : sumL (a ++ d :: e :: l) = sumL (a ++ e :: d :: l)) : d = e := by
  have h1 : ∀ x ∈ d :: e :: l, Dig x := fun x hx => by
    rcases List.mem_cons.1 hx with rfl | hx; exact hd
    rcases List.mem_cons.1 hx with rfl | hx; exact he; exact hl x hx
  have h2 : ∀ x ∈ e :: d :: l, Dig x := fun x hx => by
    rcases List.mem_cons.1 hx with rfl | hx; exact he
    rcases List.mem_cons.1 hx with rfl | hx; exact hd; exact hl x hx
  rw [sum_append ha h1, sum_append ha h2] at h
  simp only [List.length_cons] at h
  have h3 := cancel_right (dig_sumA ha _) (dig_sum h1) (dig_sum h2) h
  simp only [sumL, List.length_cons, turnN] at h3
  have D1 := dig_turn hd l.length
  have D2 := dig_turn he l.length
  rw [mul_assoc' (dig_sum hl) D2 (dig_trn _), mul_assoc' (dig_sum hl) D1 (dig_trn _)] at h3
  have h4 := cancel_left (dig_sum hl) (dig_mul D2 (dig_trn _)) (dig_mul D1 (dig_trn _)) h3
  exact (turn_inj he hd _ (swap_ne D2 D1 h4)).symm
end Go.Proofs.YtoenecgjiejljaaDoor

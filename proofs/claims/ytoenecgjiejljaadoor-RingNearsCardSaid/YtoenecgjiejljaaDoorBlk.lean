/-
  Blocks of rings: which series are valid, which blocks; the walks of isSeries, validateBlock, meet, of package ring and of the reference. No condition.
-/
import Derived.Test.YtoenecgjiejljaaDoorVal
namespace Go.Proofs.YtoenecgjiejljaaDoor
open Go.RowKit
set_option linter.unusedVariables false

def seriesB (s : ByteArray) : Bool := (decide (s.size = 1) || decide (s.size = 2)) && (List.range s.size).all fun i => isUp (bAt s i)
theorem series_bad {s : ByteArray} {k : Nat} (hk : k < s.size) (h : isUp (bAt s k) = false) : seriesB s = false := by
  simp only [seriesB, Bool.and_eq_false_iff]
  right
  rw [List.all_eq_false]
  exact ⟨k, List.mem_range.2 hk, by simp [h]⟩
theorem series_ok {s : ByteArray} (hs : s.size = 1 ∨ s.size = 2) (h : ∀ i, i < s.size → isUp (bAt s i) = true) : seriesB s = true := by
  simp only [seriesB, Bool.and_eq_true, Bool.or_eq_true, decide_eq_true_eq]
  exact ⟨hs, List.all_eq_true.2 fun i hi => h i (List.mem_range.1 hi)⟩
theorem series_size {s : ByteArray} (h1 : s.size ≠ 1) (h2 : s.size ≠ 2) : seriesB s = false := by simp [seriesB, h1, h2]
theorem rune_up (s : ByteArray) (pos : Nat) (h : pos < s.size) :
    isUp ((Utf8.decode s pos).1 : Int) = isUp (bAt s pos) ∧ (isUp (bAt s pos) = true → (Utf8.decode s pos).2 = 1) ∧ (0 : Int) ≤ ((Utf8.decode s pos).1 : Int) := by
  obtain ⟨a, b, c, _⟩ := rune_at s pos h false (pos + 1 : Int)
  unfold okAt at a b
  rw [if_pos (by omega), if_pos (by omega)] at a
  rw [if_pos (by omega)] at b
  simp at a b
  exact ⟨a, b, c⟩
set_option maxHeartbeats 1000000 in
theorem isSeries_any (s : ByteArray) (w : World) (hsz : s.size ≤ 9223372036854775807) :
    Calls Tryd.prog 59 #[.string s] w fun e w' => e = .returned (.bool (seriesB s)) ∧ Below w.heap.size w w' := by
  by_cases hs : s.size = 1 ∨ s.size = 2
  · have HS := Lib.hid hs
    have h1 : decide ((s.size : Int) < 1) = false := by simp; omega
    have h2 : decide (2 < (s.size : Int)) = false := by simp; omega
    clear hs
    go_enter Tryd.func59, Tryd.ntmps59
    go_wp2
    clear h1 h2
    go_loopw [] (fun wr => ∃ pos, pos ≤ s.size ∧ wr = w.iter s pos ∧ ∀ i, i < pos → isUp (bAt s i) = true) (fun wr => s.size - wr.iterPos w.heap.size)
    case atStart => exact ⟨0, by omega, rfl, fun i hi => by omega⟩
    case round =>
      obtain ⟨pos, hpos, rfl, hall⟩ := hrel
      have HA := Lib.hid hall
      clear hall
      by_cases hp : pos < s.size
      · obtain ⟨ho, hn, hr0⟩ := rune_up s pos hp
        have hnx : ∀ ty, (Instr.next (.pointer (some ⟨w.heap.size, 0, none⟩)) true ty).run Tryd.prog (w.iter s pos) = _ := fun ty => run_next_any w s pos ty hp
        generalize ((Utf8.decode s pos).1 : Int) = r at *
        generalize (Utf8.decode s pos).2 = n at *
        have HO := Lib.hid ho
        have HN := Lib.hid hn
        clear ho hn
        cases hu : isUp r
        · have HU := Lib.hid hu
          clear hu
          go_wp2_with (go_at_call 106; refine (isLetter_any r _).mono ?_; rw [HU.out]; rintro e w' ⟨rfl, rfl⟩)
          go_ret
          exact ⟨by rw [series_bad hp (HO.out.symm.trans HU.out)]; rfl, iter_below _ _ _⟩
        · have HU := Lib.hid hu
          clear hu
          obtain rfl : n = 1 := HN.out (HO.out.symm.trans HU.out)
          go_wp2_with (go_at_call 106; refine (isLetter_any r _).mono ?_; rw [HU.out]; rintro e w' ⟨rfl, rfl⟩)
          go_roundw
          case rel => exact ⟨pos + 1, by omega, rfl, fun i hi => by
            rcases Nat.lt_or_ge i pos with h | h
            · exact HA.out i h
            · obtain rfl : i = pos := by omega
              exact HO.out.symm.trans HU.out⟩
          case measure => simp; omega
      · have hnx : ∀ ty, (Instr.next (.pointer (some ⟨w.heap.size, 0, none⟩)) true ty).run Tryd.prog (w.iter s pos) = _ := fun ty => run_next_end w s pos ty hp
        have hps : pos = s.size := by omega
        have HP := Lib.hid hps
        clear hps
        go_wp2
        go_ret
        exact ⟨by rw [series_ok HS.out (fun i hi => HA.out i (by rw [HP.out]; exact hi))]; rfl, iter_below _ _ _⟩
  · rw [series_size (by omega) (by omega)]
    by_cases h0 : s.size = 0
    · have h1 : decide ((s.size : Int) < 1) = true := by simp; omega
      clear hs h0
      go_enter Tryd.func59, Tryd.ntmps59
      go_wp2
      go_ret
      exact ⟨rfl, Below.refl _ _⟩
    · have h1 : decide ((s.size : Int) < 1) = false := by simp; omega
      have h2 : decide (2 < (s.size : Int)) = true := by simp; omega
      clear hs h0
      go_enter Tryd.func59, Tryd.ntmps59
      go_wp2
      go_ret
      exact ⟨rfl, Below.refl _ _⟩

/-! ### The reference's -/
def zeros6 : ByteArray := ⟨#[48, 48, 48, 48, 48, 48]⟩
theorem bAt_app (a b : ByteArray) (i : Nat) : bAt (a ++ b) i = if i < a.size then bAt a i else bAt b (i - a.size) := by
  unfold bAt
  have e : (a ++ b).data.toList = a.data.toList ++ b.data.toList := by simp [ByteArray.data_append]
  rw [e, List.getD_eq_getElem?_getD, List.getElem?_append]
  have : a.data.toList.length = a.size := by simp
  rw [this]
  split <;> simp [List.getD_eq_getElem?_getD]
theorem form_series {s : ByteArray} (hs : s.size = 1 ∨ s.size = 2) : formB (s ++ zeros6) false = seriesB s := by
  have hz : zeros6.size = 6 := rfl
  have hsz : (s ++ zeros6).size = s.size + 6 := by rw [ByteArray.size_append, hz]
  have hz6 : ∀ i : Fin 6, bAt zeros6 i.val = 48 := by decide +kernel
  cases hb : seriesB s
  · obtain ⟨k, hk, hu⟩ : ∃ k, k < s.size ∧ isUp (bAt s k) = false := by
      simp only [seriesB, Bool.and_eq_false_iff] at hb
      rcases hb with hb | hb
      · simp at hb; omega
      · rw [List.all_eq_false] at hb
        obtain ⟨k, hk, h⟩ := hb
        exact ⟨k, List.mem_range.1 hk, by simpa using h⟩
    refine formB_bad (pos := k) (by omega) ?_
    rw [bAt_app, if_pos hk]
    unfold okAt
    rw [if_pos (by omega)]
    simp [hu]
  · have hu : ∀ i, i < s.size → isUp (bAt s i) = true := by
      simp only [seriesB, Bool.and_eq_true] at hb
      exact fun i hi => List.all_eq_true.1 hb.2 i (List.mem_range.2 hi)
    refine formB_ok (by omega) fun i hi => ?_
    rw [bAt_app]
    unfold okAt
    by_cases h : i < s.size
    · rw [if_pos h, if_pos (by omega), hu i h]; rfl
    · rw [if_neg h, if_neg (by omega)]
      have := hz6 ⟨i - s.size, by omega⟩
      simp only at this
      rw [this]; rfl
theorem rIsSeries_any (s : ByteArray) (w : World) (hsz : s.size ≤ 9223372036854775807) :
    Calls Tryd.prog 63 #[.string s] w fun e w' => e = .returned (.bool (seriesB s)) ∧ w = w' := by
  by_cases hs : s.size = 1 ∨ s.size = 2
  · have HF := Lib.hid (form_series hs)
    have HC := Lib.hid (fun w => formed_any (s ++ zeros6) false w (by rw [ByteArray.size_append]; have : zeros6.size = 6 := rfl; omega))
    rw [HF.out] at HC
    unfold zeros6 at HC
    obtain ⟨q, hq⟩ : ∃ q, ((s.size : Int) == 1) = q := ⟨_, rfl⟩
    have h8 : q = false → ((s.size : Int) == 2) = true := by
      intro h; rw [h] at hq; simp at hq ⊢; omega
    have hlen : s.size ≤ 2 := by omega
    cases q
    all_goals
      have h8' := h8
      simp only [forall_const, Bool.true_eq_false, false_implies] at h8'
      clear h8 hs
      go_enter Tryd.func63, Tryd.ntmps63
      go_wp2_with (go_at_call 56; refine (HC.out _).mono ?_; rintro e w' ⟨rfl, rfl⟩)
      go_ret
      exact ⟨rfl, rfl⟩
  · rw [series_size (by omega) (by omega)]
    have h1 : ((s.size : Int) == 1) = false := by simp; omega
    have h2 : ((s.size : Int) == 2) = false := by simp; omega
    clear hs
    go_enter Tryd.func63, Tryd.ntmps63
    go_wp2
    go_ret
    exact ⟨rfl, rfl⟩
end Go.Proofs.YtoenecgjiejljaaDoor

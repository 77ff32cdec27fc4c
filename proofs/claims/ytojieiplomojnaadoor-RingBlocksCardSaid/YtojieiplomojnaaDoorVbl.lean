/-
  The walks of validateBlock, meet, ValidateBlocks of package ring and of the reference. No condition.
-/
import Derived.Test.YtojieiplomojnaaDoorBlk
namespace Go.Proofs.YtojieiplomojnaaDoor
open Go.RowKit
set_option linter.unusedVariables false

theorem bcell {W w1 : World} (hb : Below W.heap.size W w1) : (∀ b o, b < W.heap.size → w1.cell? ⟨b, o, none⟩ = W.cell? ⟨b, o, none⟩) ∧ (∀ b o, b < W.heap.size → w1.frozen? ⟨b, o, none⟩ = W.frozen? ⟨b, o, none⟩) :=
  ⟨fun b o h => hb.cell (p := ⟨b, o, none⟩) h, fun b o h => hb.frozen (p := ⟨b, o, none⟩) h⟩
theorem toList_inj {s t : ByteArray} (h : s.toList = t.toList) : s = t := by
  rw [ByteArray.toList_eq, ByteArray.toList_eq] at h
  obtain ⟨⟨a⟩⟩ := s
  obtain ⟨⟨b⟩⟩ := t
  simp at h
  rw [h]
structure Blk where
  s : ByteArray
  f : Int
  t : Int
def Blk.v (b : Blk) : Value := .agg #[.string b.s, .int .i64 b.f, .int .i64 b.t]
def blks (l : List Blk) : List Value := l.flatMap fun b => [.string b.s, .int .i64 b.f, .int .i64 b.t]
def blkE (b : Blk) : Int := if seriesB b.s then (if decide (0 ≤ b.f) && decide (b.f ≤ b.t) && decide (b.t ≤ 99999) then 0 else 1) else 2
def meetB (a b : Blk) : Bool := decide (a.s = b.s) && (decide (a.f ≤ b.t) && decide (b.f ≤ a.t))
theorem validateBlock_any (b : Blk) (w : World) (hsz : b.s.size ≤ 9223372036854775807) :
    Calls Tryd.prog 93 #[b.v] w fun e w' => e = .returned (.int .i64 (blkE b)) ∧ Below w.heap.size w w' := by
  obtain ⟨s, f, t⟩ := b
  unfold Blk.v blkE
  have H1 := Lib.hid (fun w => isSeries_any s w hsz)
  simp only
  cases hs : seriesB s
  · rw [hs] at H1
    clear hs
    go_enter Tryd.func93, Tryd.ntmps93
    go_wp2_with fail
    refine (H1.out _).mono ?_
    rintro e w1 ⟨rfl, hb⟩
    go_wp2_with fail
    go_ret
    exact ⟨rfl, ((Below.refl _ _).alloc (Nat.le_refl _) _).trans (hb.mono (by simp))⟩
  · rw [hs] at H1
    clear hs
    obtain ⟨c1, hc1⟩ : ∃ c, decide (0 ≤ f) = c := ⟨_, rfl⟩
    obtain ⟨c2, hc2⟩ : ∃ c, decide (f ≤ t) = c := ⟨_, rfl⟩
    obtain ⟨c3, hc3⟩ : ∃ c, decide (t ≤ 99999) = c := ⟨_, rfl⟩
    have g1 : decide (f < 0) = !c1 := by rw [← hc1]; by_cases h : 0 ≤ f <;> simp [h] <;> omega
    have g2 : decide (t < f) = !c2 := by rw [← hc2]; by_cases h : f ≤ t <;> simp [h] <;> omega
    have g3 : decide (99999 < t) = !c3 := by rw [← hc3]; by_cases h : t ≤ 99999 <;> simp [h] <;> omega
    rw [hc1, hc2, hc3]
    clear hc1 hc2 hc3
    cases c1 <;> cases c2 <;> cases c3 <;> simp only [Bool.not_true, Bool.not_false] at g1 g2 g3
    all_goals
      go_enter Tryd.func93, Tryd.ntmps93
      go_wp2_with fail
      refine (H1.out _).mono ?_
      rintro e w1 ⟨rfl, hb⟩
      obtain ⟨hc, hf⟩ := bcell hb
      have B1 := Lib.hid (((Below.refl w.heap.size w).alloc (Nat.le_refl _) (.cells #[.string s, .int .i64 f, .int .i64 t] 84)).trans (hb.mono (by simp)))
      clear hb
      go_wp2_with fail
      go_ret
      exact ⟨rfl, B1.out⟩
theorem meet_any (a b : Blk) (w : World) :
    Calls Tryd.prog 94 #[a.v, b.v] w fun e w' => e = .returned (.bool (meetB a b)) ∧ Below w.heap.size w w' := by
  obtain ⟨s, f, t⟩ := a
  obtain ⟨s', f', t'⟩ := b
  unfold Blk.v meetB
  simp only
  obtain ⟨c2, hc2⟩ : ∃ c, decide (f ≤ t') = c := ⟨_, rfl⟩
  obtain ⟨c3, hc3⟩ : ∃ c, decide (f' ≤ t) = c := ⟨_, rfl⟩
  rw [hc2, hc3]
  have B : Hid (Below w.heap.size w ((w.alloc (.cells #[.string s, .int .i64 f, .int .i64 t] 84)).alloc (.cells #[.string s', .int .i64 f', .int .i64 t'] 84))) := Lib.hid (((Below.refl w.heap.size w).alloc (Nat.le_refl _) _).alloc (by simp) _)
  by_cases hs : s = s'
  · subst hs
    cases c2 <;> cases c3
    all_goals
      go_enter Tryd.func94, Tryd.ntmps94
      go_wp2
      go_ret
      exact ⟨by simp, B.out⟩
  · have h1 : ¬ s.toList = s'.toList := fun h => hs (toList_inj h)
    have h2 := Lib.hid hs
    clear hs
    go_enter Tryd.func94, Tryd.ntmps94
    go_wp2
    go_ret
    exact ⟨by simp [h2.out], B.out⟩
end Go.Proofs.YtojieiplomojnaaDoor

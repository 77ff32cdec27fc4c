/-
  BookReads: the walk. Conditions: the tables that a row lists.
-/
import Derived.Test.YtoenecgjiejljaaDoorBhc
namespace Go.Proofs.YtoenecgjiejljaaDoor
open Go.RowKit
set_option linter.unusedVariables false

theorem eqT_self (a : List ByteArray) : eqT a a = true := decide_eq_true rfl
theorem bl_self (s : ByteArray) : (s.toList == s.toList) = true := by simp
theorem sL_list (s : ByteArray) : ∃ t, s = sL t ∧ t.length = s.size := ⟨s.data.toList, by cases s; rfl, by cases s; simp [ByteArray.size]⟩
theorem rdH_64 {t r : List UInt8} {n x : Nat} (h : rdH t = some ((n, x), r)) : n ≤ 64 := by
  unfold rdH at h
  cases h1 : lnO t with
  | none => rw [h1] at h; cases h
  | some p =>
    obtain ⟨f, r'⟩ := p
    rw [h1] at h
    simp only at h
    cases h2 : hdO f with
    | none => rw [h2] at h; cases h
    | some q =>
      rw [h2] at h
      simp only [Option.some.injEq, Prod.mk.injEq] at h
      obtain ⟨rfl, rfl⟩ := h
      exact (hdO_some.1 h2).1
theorem rd_64 (t : List UInt8) : (rdP t).length ≤ 64 := by
  unfold rdP
  by_cases hE : rdE t = 0
  · rw [if_pos hE]
    cases h : rdH t with
    | none => simp
    | some q =>
      obtain ⟨⟨n, x⟩, r⟩ := q
      have h1 := tk_le n r
      have h2 := rdH_64 h
      simp only
      omega
  · rw [if_neg hE]; simp
theorem rd_small (t : List UInt8) : (rdP t).length ≤ 9223372036854775807 := Nat.le_trans (rd_64 t) (by decide)
end Go.Proofs.YtoenecgjiejljaaDoor

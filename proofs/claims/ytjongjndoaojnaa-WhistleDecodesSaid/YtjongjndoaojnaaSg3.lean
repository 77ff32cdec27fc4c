/-
  The two codes of the document: one is safe, one is not. No program in sight. No condition.
-/
import Derived.Test.YtjongjndoaojnaaSg1
namespace Go.Proofs.Ytjongjndoaojnaa
set_option linter.unusedVariables false

def sDot : ByteArray := ⟨#[46]⟩
def sDotDash : ByteArray := ⟨#[46, 45]⟩
def sDashDot : ByteArray := ⟨#[45, 46]⟩
def kA : List ByteArray := [sDot, sDotDash]
def kB : List ByteArray := [sDot, sDotDash, sDashDot]
theorem kA_vd : vE kA = 0 := by decide +kernel
theorem kB_vd : vE kB = 0 := by decide +kernel
theorem kA_end : ∀ t, End (Cl kA) t → t = [45] := by
  refine end_all (P := fun t => t = [45]) ?_ ?_
  · intro x hx y hy hne t he
    simp only [kA, List.mem_cons, List.not_mem_nil, or_false] at hx hy
    rcases hx with rfl | rfl <;> rcases hy with rfl | rfl
    · exact absurd rfl hne
    · simpa [bl, sDot, sDotDash] using he.symm
    · simp [bl, sDot, sDotDash] at he
    · exact absurd rfl hne
  · intro u hu _ s hs t ht
    subst hu
    simp only [kA, List.mem_cons, List.not_mem_nil, or_false] at hs
    rcases hs with rfl | rfl
    · rw [show stp (bl sDot) [45] = none from by decide +kernel] at ht; cases ht
    · rw [show stp (bl sDotDash) [45] = none from by decide +kernel] at ht; cases ht
theorem kA_safe : safeC kA = true := by
  refine safeC_true (vE_ok kA_vd) fun he => ?_
  have := kA_end _ he
  cases this
theorem kB_safe : safeC kB = false := by
  refine safeC_false (vE_ok kB_vd) ?_
  have m1 : bl sDot ∈ Cl kB := List.mem_map_of_mem (by simp [kB])
  have m2 : bl sDotDash ∈ Cl kB := List.mem_map_of_mem (by simp [kB])
  have m3 : bl sDashDot ∈ Cl kB := List.mem_map_of_mem (by simp [kB])
  have e1 : End (Cl kB) [45] := End.base m1 m2 (by decide +kernel) (by decide +kernel)
  have e2 : End (Cl kB) [46] := End.right m3 e1 (by simp) (by decide +kernel)
  exact End.left m1 e2 (by simp) (by decide +kernel)
end Go.Proofs.Ytjongjndoaojnaa

/-
  What the law over the whole of package wind needs besides: the fewest cover, what Apart returns is apart, a day that goes home goes round. No walk.
-/
import Derived.Test.YtfokmgogbjifbaaWb9
import Derived.Test.YtfokmgogbjifbaaWi3
namespace Go.Proofs.Ytfokmgogbjifbaa
open Go.RowKit
set_option linter.unusedVariables false

theorem few_form {l : List Pt} (h : fewOk l = true) : pipesE l = 0 ∧ setL l.length (fewL l) = true ∧ covN l (memB (fewL l)) = 4294967295 := by
  have h1 : pipesE l = 0 ∧ covF l (2 ^ l.length - 1) = true := by
    unfold fewOk at h
    rw [Bool.and_eq_true, decide_eq_true_eq] at h
    exact h
  have hp := Nat.two_pow_pos l.length
  have hPl := fewP_lt (l := l) (Nat.le_refl (2 ^ l.length - 1))
  obtain ⟨h10, _⟩ := pipesE_zero h1.1
  have hL : fewL l = listK (fewP l (2 ^ l.length - 1)).testBit l.length := by
    unfold fewL
    rw [if_pos h]
    exact listB_small (by omega) (by omega)
  refine ⟨h1.1, by rw [hL]; exact setL_listK _ _, ?_⟩
  rw [hL, covN_congr (g := (fewP l (2 ^ l.length - 1)).testBit) fun i hi => memB_listK _ _ _ hi]
  exact of_decide_eq_true (fewP_min h1.2 _).1
theorem few_covers {l : List Pt} (h : pipesE l = 0) : covE l (fewL l) = 0 ∧ covV l (fewL l) = fewOk l := by
  cases hk : fewOk l
  · have e : fewL l = [] := by unfold fewL; rw [if_neg (by rw [hk]; decide)]
    have e1 : covE l [] = 0 := by unfold covE; rw [if_pos h]; rfl
    rw [e]
    refine ⟨e1, ?_⟩
    unfold covV
    rw [e1]
    have : ¬ covN l (memB []) = 4294967295 := cov_lack (p := 0) (by omega) (by
      unfold covB covK
      rw [List.any_eq_false]
      intro i _
      simp [memB])
    simp [this]
  · obtain ⟨_, h2, h3⟩ := few_form hk
    have e1 : covE l (fewL l) = 0 := by unfold covE; rw [if_pos h, if_pos h2]
    refine ⟨e1, ?_⟩
    unfold covV
    rw [e1, h3]
    rfl
theorem apart_self {l : List Pt} (h : pipesE l = 0) : apE l (apV l) = 0 := by
  obtain ⟨h10, _⟩ := pipesE_zero h
  obtain ⟨g1, g2, _⟩ := apV_good h10
  have e : apV l = listB (apM l).testBit := if_pos h
  rw [e]
  unfold apE
  rw [if_pos h, if_pos g1, g2]
  rfl
theorem apart_few {l : List Pt} (h : fewOk l = true) : (apV l).length ≤ (fewL l).length := by
  obtain ⟨h1, h2, h3⟩ := few_form h
  obtain ⟨h10, _⟩ := pipesE_zero h1
  obtain ⟨g1, g2, _⟩ := apV_good h10
  rw [show apV l = listB (apM l).testBit from if_pos h1]
  exact apart_cover g1 g2 h2 h3
theorem home_round {l : List Int} {a z : Int} (h : veerE l = 0) (hl : 0 < l.length) (h0 : l[0]? = some a) (h1 : l[l.length - 1]? = some z) : (veerV l + acr z a) % 32 = 0 := by
  have hm := vK_mod l l.length hl
  rw [getD_at h0, getD_at h1] at hm
  have e : veerV l = vK l l.length := if_pos h
  have ha := acr_mod z a
  rw [e]
  omega
end Go.Proofs.Ytfokmgogbjifbaa

/-
  What is read of a book, in the reference: the walks of ReadAll and Read. Condition: sizes.
-/
import Derived.Test.YtoenecgjiejljaaDoorBh3
namespace Go.Proofs.YtoenecgjiejljaaDoor
open Go.RowKit
set_option linter.unusedVariables false

theorem results_tmp4 {fn : Func} {t u v x : Tmp} (h : fn.results = #[.tmp t, .tmp u, .tmp v, .tmp x]) (tmps : Array Value) (P : Program) (w : World) :
    (results fn tmps).run P w = .ok (.tuple #[tmps.getD t undef, tmps.getD u undef, tmps.getD v undef, tmps.getD x undef]) w := by
  simp [results, h]
/-- The first line's numbers, and what stands behind it. -/
noncomputable def rdH (t : List UInt8) : Option ((Nat × Nat) × List UInt8) := match lnO t with
  | some (f, r) => match hdO f with
    | some p => some (p, r)
    | none => none
  | none => none
noncomputable def rdE (t : List UInt8) : Int := match rdH t with
  | none => 2
  | some (p, r) => if (tk p.1 r).1.length = p.1 ∧ rt (smsL ((tk p.1 r).1.map sL)) ≠ (p.2 : Int) then 7 else 0
noncomputable def rdP (t : List UInt8) : List (List UInt8) := if rdE t = 0 then (match rdH t with | some (p, r) => (tk p.1 r).1 | none => []) else []
noncomputable def rdN (t : List UInt8) : Int := if rdE t = 0 then (match rdH t with | some (p, r) => (p.1 : Int) | none => -1) else -1
noncomputable def rdR (t : List UInt8) : List UInt8 := if rdE t = 0 then (match rdH t with | some (p, r) => (tk p.1 r).2 | none => []) else []
theorem rd_bad {t : List UInt8} (h : rdE t ≠ 0) : rdP t = [] ∧ rdN t = -1 ∧ rdR t = [] := ⟨if_neg h, if_neg h, if_neg h⟩
theorem rd_none {t : List UInt8} (h : rdH t = none) : rdE t = 2 := by unfold rdE; rw [h]
theorem rdH_ln {t : List UInt8} (h : lnO t = none) : rdH t = none := by unfold rdH; rw [h]
theorem rdH_hd {t f r : List UInt8} (h : lnO t = some (f, r)) (h2 : hdO f = none) : rdH t = none := by unfold rdH; rw [h]; simp only; rw [h2]
theorem rdH_some {t f r : List UInt8} {n x : Nat} (h : lnO t = some (f, r)) (h2 : hdO f = some (n, x)) : rdH t = some ((n, x), r) := by unfold rdH; rw [h]; simp only; rw [h2]
theorem rd_some {t r : List UInt8} {n x : Nat} {P : List (List UInt8)} {q : List UInt8} (h : rdH t = some ((n, x), r)) (ht : tk n r = (P, q)) (h0 : ¬ (P.length = n ∧ rt (smsL (P.map sL)) ≠ (x : Int))) : rdE t = 0 ∧ rdP t = P ∧ rdN t = n ∧ rdR t = q := by
  have hE : rdE t = 0 := by unfold rdE; rw [h]; simp only; rw [ht, if_neg h0]
  refine ⟨hE, ?_, ?_, ?_⟩
  · unfold rdP; rw [if_pos hE, h]; simp only; rw [ht]
  · unfold rdN; rw [if_pos hE, h]
  · unfold rdR; rw [if_pos hE, h]; simp only; rw [ht]
theorem rd_seven {t r : List UInt8} {n x : Nat} {P : List (List UInt8)} {q : List UInt8} (h : rdH t = some ((n, x), r)) (ht : tk n r = (P, q)) (h0 : P.length = n ∧ rt (smsL (P.map sL)) ≠ (x : Int)) : rdE t = 7 := by
  unfold rdE; rw [h]; simp only; rw [ht, if_pos h0]
/-- head and what a first line is. -/
theorem hd_link (f : List UInt8) : (hwB (sL (f ++ [10])) = false ∧ hdO f = none) ∨ (∃ n x : Nat, hwB (sL (f ++ [10])) = true ∧ hdO f = some (n, x) ∧ hwN (sL (f ++ [10])) = n ∧ hwX (sL (f ++ [10])) = x ∧ n ≤ 64 ∧ x < 2147483647) := by
  cases hb : hwB (sL (f ++ [10])) with
  | false =>
    refine .inl ⟨rfl, hdO_none.2 fun n x hh => ?_⟩
    have := (hw_of (s := sL (f ++ [10])) hh.1 hh.2.1 (by rw [bl_sL, hh.2.2]; rfl)).1
    rw [hb] at this
    cases this
  | true =>
    obtain ⟨n, x, h1, h2, h3, h4, h5⟩ := hw_ok hb
    rw [bl_sL] at h5
    exact .inr ⟨n, x, rfl, hdO_some.2 ⟨h3, h4, List.append_cancel_right h5⟩, h1, h2, h3, h4⟩
theorem lnV_some {t f r : List UInt8} (h : lnO t = some (f, r)) : lnV (sL t) = sL (f ++ [10]) ∧ lnB (sL t) = true := by
  unfold lnV lnB
  rw [bl_sL, h]
  exact ⟨rfl, rfl⟩
theorem lnV_none {t : List UInt8} (h : lnO t = none) : lnV (sL t) = sL t ∧ lnB (sL t) = false := by
  unfold lnV lnB
  rw [bl_sL, h]
  exact ⟨rfl, rfl⟩
theorem ext_rest {t f r : List UInt8} (h : lnO t = some (f, r)) : (sL t).extract (sL (f ++ [10])).size (sL t).size = sL r := by
  refine bl_inj ?_
  rw [bl_extract, bl_sL, bl_sL, sL_size, sL_size, (lnO_some.1 h).1]
  have e1 : (f ++ [10]).length = f.length + 1 := by simp
  have e2 : (f ++ 10 :: r).length = f.length + 1 + r.length := by simp; omega
  have e3 : f ++ 10 :: r = (f ++ [10]) ++ r := by simp
  rw [e1, e2, e3, ← e1, List.drop_left, e1, List.take_of_length_le (by omega)]
theorem ext_front (f : List UInt8) : (sL (f ++ [10])).extract 0 f.length = sL f := by
  refine bl_inj ?_
  rw [bl_extract, bl_sL, bl_sL, List.drop_zero, Nat.sub_zero, List.take_left]
theorem tk_step {n j : Nat} {r r' f q : List UInt8} {P : List (List UInt8)} (h : tk n r = (P ++ (tk (n - j) r').1, (tk (n - j) r').2)) (hj : j < n) (hl : lnO r' = some (f, q)) (hp : pgl f = true) : tk n r = ((P ++ [f]) ++ (tk (n - (j + 1)) q).1, (tk (n - (j + 1)) q).2) := by
  rw [h, show n - j = (n - (j + 1)) + 1 by omega, tk_good hl hp]
  simp
theorem tk_stop {n j : Nat} {r r' : List UInt8} {P : List (List UInt8)} (h : tk n r = (P ++ (tk (n - j) r').1, (tk (n - j) r').2)) (he : tk (n - j) r' = ([], r')) : tk n r = (P, r') := by
  rw [h, he, List.append_nil]
theorem wr64 {x : Int} (h0 : 0 ≤ x) (h1 : x ≤ 9000) : wrap64 x = x := by unfold wrap64; omega
def lenV (u : Value) : Nat := match u with | .slice _ m _ => m | _ => 0
theorem rd_err (t : List UInt8) : (decide (rdN t < 0) = true ∧ rdE t ≠ 0) ∨ (decide (rdN t < 0) = false ∧ rdE t = 0) := by
  by_cases h : rdE t = 0
  · refine .inr ⟨decide_eq_false ?_, h⟩
    unfold rdN
    rw [if_pos h]
    cases hh : rdH t with
    | none => rw [rd_none hh] at h; cases h
    | some p => simp
  · exact .inl ⟨decide_eq_true (by rw [(rd_bad h).2.1]; decide), h⟩
end Go.Proofs.YtoenecgjiejljaaDoor

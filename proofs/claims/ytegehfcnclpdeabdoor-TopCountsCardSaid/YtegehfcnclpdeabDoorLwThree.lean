/-
  Three numbers of a row, read. No condition.
-/
import Derived.Test.YtegehfcnclpdeabDoorHsf
namespace Go.Proofs.YtegehfcnclpdeabDoor
open Go.RowKit
set_option linter.unusedVariables false

theorem Rd.three {w : World} {B : Nat} {A : Option Addr} {K : Nat → Nat} {n : Nat} (h : Rd w B A (ints (rowZ K (n * 3)))) (k : Nat) (hk : k < n) :
    ∃ b o, A = some ⟨b, o, none⟩ ∧ w.cell? ⟨b, o + k * 3, none⟩ = some (.int .i64 (K (k * 3) : Int)) ∧ w.cell? ⟨b, o + k * 3 + 1, none⟩ = some (.int .i64 (K (k * 3 + 1) : Int)) ∧ w.cell? ⟨b, o + k * 3 + 2, none⟩ = some (.int .i64 (K (k * 3 + 2) : Int)) := by
  have hi : ∀ j, j < n * 3 → (ints (rowZ K (n * 3)))[j]? = some (.int .i64 (K j : Int)) := fun j hj => ints_at (row_at hj)
  rcases h with h0 | ⟨b2, o2, ha2, _, hc2⟩
  · have := hi (k * 3) (by omega)
    rw [h0] at this
    cases this
  · exact ⟨b2, o2, ha2, hc2 (k * 3) _ (hi (k * 3) (by omega)), hc2 (k * 3 + 1) _ (hi (k * 3 + 1) (by omega)), hc2 (k * 3 + 2) _ (hi (k * 3 + 2) (by omega))⟩
end Go.Proofs.YtegehfcnclpdeabDoor

/-
  An element of an array that is held by value, at any index. No program in sight.
-/
import Derived.Test.YtoenecgjiejljaaDoorGen
namespace Go.Proofs.YtoenecgjiejljaaDoor
open Go.RowKit
set_option linter.unusedVariables false

theorem run_index_arr {P : Program} {t e : TypeId} {n : Nat} {d : TypeDesc} {i : TypeInfo} (ht : P.underlying t = some (.array n e)) (he : P.underlying e = some d) (hd : (match d with | .struct _ | .array _ _ => true | _ => false) = false)
    (hi : P.info? e = some i) (h1 : i.size = 1) {U : Array Value} {p : Nat} {x : Value} (hp : p < n) (hx : U[p]? = some x) (w : World) :
    (Instr.index t (.agg U) (.int .i64 (p : Int))).run P w = .ok x w := by
  have hagg : (isAgg e).run P w = .ok false w := by
    unfold isAgg
    rw [Sem.run_bind, run_underlying he w]
    cases d <;> simp_all
  have hsz : (sizeOf e).run P w = .ok 1 w := by simp [sizeOf, typeInfo, hi, h1]
  have hb : (0 : Int) ≤ (p : Int) ∧ (p : Int) < (n : Int) := ⟨by omega, by omega⟩
  unfold Instr.index
  simp only [asIntOf, Sem.run_bind, Sem.run_pure, Result.andThen_ok, run_underlying ht w, if_pos hb, hsz, Int.toNat_natCast, Nat.mul_one]
  unfold part
  simp only [Sem.run_bind, hagg, Result.andThen_ok, hx]
  simp
end Go.Proofs.YtoenecgjiejljaaDoor

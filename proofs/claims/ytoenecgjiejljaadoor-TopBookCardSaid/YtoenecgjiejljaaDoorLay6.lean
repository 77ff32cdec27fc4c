/-
  How the arguments of whistle's laws are opened. No condition.
-/
import Derived.Test.YtoenecgjiejljaaDoorTs1
import Derived.Test.YtoenecgjiejljaaDoorProg
import Derived.Test.YtoenecgjiejljaaDoorRows
import Derived.Test.YtoenecgjiejljaaDoorPost
namespace Go.Proofs.YtoenecgjiejljaaDoor
open Go.RowKit Go.ChangeAt
set_option linter.unusedVariables false

theorem txts_flat (l : List ByteArray) : (l.flatMap fun s => [Value.string s]) = txts l := by
  induction l with
  | nil => rfl
  | cons a r ih => rw [List.flatMap_cons, ih]; rfl
theorem own : ownKnob Tryd.prog.godebug = none := by kernel_rfl
theorem laidOut : laidOutB Tryd.prog = true := by kernel_rfl
theorem cInt : Tryd.prog.cellsOf 3 = 1 := by kernel_rfl
theorem cStr : Tryd.prog.cellsOf 9 = 1 := by kernel_rfl
section
variable {H : Type} {enc : TypeId × Value → H} {P : Program} {W : World}
theorem open_rds {t e : TypeId} {r : Reach} {b0 : Nat} {v : Value} {d : DataW H} {p : List MemPlace} (ht : P.underlying t = some (.slice e)) (he : P.underlying e = some .string) (hc : P.cellsOf e = 1)
    (hval : Value.okWide P W r b0 t v) (h : DataW.Trod enc P W 0 (fun _ => true) true t v d p) :
    ∃ A c l, v = .slice A (l.length : Nat) c ∧ l.length ≤ c ∧ c ≤ maxLen ∧ Rd W W.heap.size A (txts l) ∧ Sz l := by
  obtain ⟨A, c, l, h1, h2, h3, h4, h5⟩ := open_list (fun s => [Value.string s]) (fun s => s.size ≤ maxLen) ht hc (by decide) (fun _ => rfl) (fun n cs y hx => by
    obtain ⟨s, hs, _, hz⟩ := DataW.trod_string he hx
    exact ⟨s, hs, hz⟩) hval h
  refine ⟨A, c, l, h1, h2, h3, ?_, fun s hs => ?_⟩
  · rw [← txts_flat]
    exact h4
  · have := h5 s hs
    unfold maxLen at this
    omega
end
end Go.Proofs.YtoenecgjiejljaaDoor

/-
  Slices of texts in memory. No program in sight.
-/
import Derived.Test.YtoenecgjiejljaaDoorGen
import Derived.Test.YtoenecgjiejljaaDoorSg1
namespace Go.Proofs.YtoenecgjiejljaaDoor
open Go.RowKit
set_option linter.unusedVariables false

def txts (C : List ByteArray) : List Value := C.map Value.string
theorem txts_at {C : List ByteArray} {k : Nat} {s : ByteArray} (h : C[k]? = some s) : (txts C)[k]? = some (.string s) := by simp [txts, h]
theorem txts_one (C : List ByteArray) : ∀ u ∈ txts C, u.oneCell' = true := by
  intro u hu
  obtain ⟨x, _, rfl⟩ := List.mem_map.1 hu
  rfl
theorem txts_append (a b : List ByteArray) : txts (a ++ b) = txts a ++ txts b := by simp [txts]
theorem txts_length (C : List ByteArray) : (txts C).length = C.length := by simp [txts]
theorem txts_take (C : List ByteArray) (k : Nat) : (txts C).take k = txts (C.take k) := by simp [txts, List.map_take]
theorem Rd.txt {w : World} {B : Nat} {A : Option Addr} {C : List ByteArray} (h : Rd w B A (txts C)) (k : Nat) (hk : k < C.length) :
    ∃ b o s, A = some ⟨b, o, none⟩ ∧ Hid (C[k]? = some s) ∧ w.cell? ⟨b, o + k, none⟩ = some (.string s) := by
  obtain ⟨b, o, ha, _, hc⟩ := h.at_ (txts_at (List.getElem?_eq_getElem hk))
  exact ⟨b, o, _, ha, (List.getElem?_eq_getElem hk : _), hc⟩
/-- All texts are of a size that a machine holds. -/
def Sz (C : List ByteArray) : Prop := ∀ s ∈ C, s.size ≤ 9223372036854775807
theorem Sz.at_ {C : List ByteArray} (h : Sz C) {k : Nat} {s : ByteArray} (hk : C[k]? = some s) : s.size ≤ 9223372036854775807 := h s (List.mem_of_getElem? hk)
end Go.Proofs.YtoenecgjiejljaaDoor

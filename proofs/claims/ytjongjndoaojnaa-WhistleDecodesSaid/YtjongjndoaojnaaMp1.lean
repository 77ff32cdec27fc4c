/-
  A map from texts to bools that the call makes: it holds just the texts that were put in. No program in sight.
-/
import Derived.Test.YtjongjndoaojnaaSg1
import Derived.Maps.OwnSet
import Derived.Maps.OwnOps
import Derived.Maps.Views
import Derived.StringKeys
namespace Go.Proofs.Ytjongjndoaojnaa
open Go.RowKit Go.Maps Go.ChangeMaps
set_option linter.unusedVariables false

/-- Block b is a map of at most n entries that holds true at just the texts of S. -/
def Seen (P : Program) (K E : TypeId) (w : World) (b n : Nat) (S : List UInt8 → Bool) : Prop :=
  ∃ D : DataW Unit, w.ownsMap P K (plainElem P E) b n D ∧ Maps.IsMap D ∧ ∀ s : List UInt8, D.atKey (.string s) (.lit (.bool false)) = .lit (.bool (S s))
theorem seen_made (P : Program) (K E : TypeId) (w : World) : Seen P K E (w.alloc (.map #[] 0)) w.heap.size 0 (fun _ => false) :=
  ⟨.map [], World.ownsMap_made _ _ _ _, ⟨[], rfl⟩, fun _ => rfl⟩
theorem Seen.kept {P : Program} {K E : TypeId} {w w' : World} {b n : Nat} {S : List UInt8 → Bool} (h : Seen P K E w b n S) {row : Option Nat} (hg : w.grownBy w' row) (hne : some b ≠ row) : Seen P K E w' b n S := by
  obtain ⟨D, h1, h2, h3⟩ := h
  exact ⟨D, h1.kept hg hne, h2, h3⟩
theorem Seen.block {P : Program} {K E : TypeId} {w w' : World} {b n : Nat} {S : List UInt8 → Bool} (h : Seen P K E w b n S) (hb : w'.heap[b]? = w.heap[b]?) : Seen P K E w' b n S := by
  obtain ⟨D, ⟨es, clock, a1, a2⟩, h2, h3⟩ := h
  exact ⟨D, ⟨es, clock, hb.trans a1, a2⟩, h2, h3⟩
theorem Seen.mono {P : Program} {K E : TypeId} {w : World} {b n n' : Nat} {S : List UInt8 → Bool} (h : Seen P K E w b n S) (hn : n ≤ n') : Seen P K E w b n' S := by
  obtain ⟨D, h1, h2, h3⟩ := h
  exact ⟨D, h1.mono hn, h2, h3⟩
theorem Seen.congr {P : Program} {K E : TypeId} {w : World} {b n : Nat} {S S' : List UInt8 → Bool} (h : Seen P K E w b n S) (hs : ∀ s, S s = S' s) : Seen P K E w b n S' := by
  obtain ⟨D, h1, h2, h3⟩ := h
  exact ⟨D, h1, h2, fun s => (h3 s).trans (by rw [hs])⟩
theorem plainElem_bool_inv {H : Type} {P : Program} {e : TypeId} (he : P.underlying e = some .bool) {v : Value} {z : DataW H × List MemPlace} (h : plainElem P e v = some z) : ∃ x, v = .bool x ∧ z = (.lit (.bool x), []) := by
  unfold plainElem at h
  rw [he] at h
  cases v <;> simp at h
  exact ⟨_, rfl, h.symm⟩
/-- Whether a text was put in: an equation of the look-up's run. -/
theorem Seen.look {P : Program} {K E t : TypeId} {w : World} {b n : Nat} {S : List UInt8 → Bool} (h : Seen P K E w b n S) (hK : P.underlying K = some .string) (ht : P.underlying t = some (.map K E)) (he : P.underlying E = some .bool)
    (hz : (zeroValue E).run P w = .ok (.bool false) w) {s : ByteArray} (hs : s.size ≤ maxLen) : (Instr.lookup t (.map (some b)) (.string s) false).run P w = .ok (.bool (S (bl s))) w := by
  obtain ⟨D, h1, h2, h3⟩ := h
  obtain ⟨v, ps, hrun, hv⟩ := h1.lookup (string_keyed hK) ht hz (plainElem_bool he false) (WideMaps.keyOf_string_mk hK hs)
  obtain ⟨x, rfl, hx⟩ := plainElem_bool_inv he hv
  injection hx with hx
  have h4 := h3 s.data.toList
  rw [hx] at h4
  injection h4 with h4
  injection h4 with h4
  rw [hrun, h4]
  rfl
theorem Seen.put {P : Program} {K E : TypeId} {w' : World} {b n : Nat} {S : List UInt8 → Bool} {D : DataW Unit} (h2 : Maps.IsMap D) (h3 : ∀ s : List UInt8, D.atKey (.string s) (.lit (.bool false)) = .lit (.bool (S s))) {s : ByteArray}
    (h : w'.ownsMap P K (plainElem P E) b n (D.put (.string s.data.toList) (.lit (.bool true)))) : Seen P K E w' b n (fun u => decide (u = bl s) || S u) := by
  refine ⟨_, h, ?_, fun u => ?_⟩
  · obtain ⟨es, rfl⟩ := h2
    exact ⟨_, rfl⟩
  · by_cases hu : u = bl s
    · subst hu
      show (D.put (.string s.data.toList) _).atKey (.string s.data.toList) _ = _
      rw [atKey_put_same h2 (show WideAt.IsKeyLit (.string s.data.toList) from trivial)]
      show _ = DataW.lit (Lit.bool (decide (bl s = bl s) || S (bl s)))
      simp
    · rw [atKey_put_other (fun e => hu (by injection e)), h3]
      show _ = DataW.lit (Lit.bool (decide (u = bl s) || S u))
      rw [decide_eq_false hu]
      rfl
/-- A text is put in: at the operation. -/
theorem wpList_put {P : Program} {w : World} {ops : Array Oper} {rest : List Oper} {o : Oper} {a : Act} {Q : Exit → Act → World → Prop} {K E t : TypeId} {b n : Nat} {S : List UInt8 → Bool} (h : Seen P K E w b n S)
    (hg : o.guard = none) (m x v : Operand) (hop : o.op = Op.mapUpdate t m x v) (hK : P.underlying K = some .string) (ht : P.underlying t = some (.map K E)) (he : P.underlying E = some .bool)
    (hm : a.eval m = .map (some b)) (hn : n < maxLen) {s : ByteArray} (hs : s.size ≤ maxLen) (hx : a.eval x = .string s) (hv : a.eval v = .bool true)
    (k : ∀ w', Seen P K E w' b (n + 1) (fun u => decide (u = bl s) || S u) → w.grownBy w' (some b) → wpList P ops Q rest (a.put o.dst undef) w') :
    wpList P ops Q (o :: rest) a w := by
  obtain ⟨D, h1, h2, h3⟩ := h
  refine wpList_mapUpdate_own w hg m x v t hop K E (string_keyed hK) ht (plainElem P E) b n D hm h1 hn _ _ _ hx hv (WideMaps.keyOf_string_mk hK hs) _ [] (plainElem_bool he true) ?_
  intro w' hown hgr
  exact k w' (Seen.put h2 h3 hown) hgr
end Go.Proofs.Ytjongjndoaojnaa

/-
  Histories: texts of '0' and '1'; first and last catch; the library's searches by their contracts. Condition: sizes that a machine holds.
-/
import Derived.Test.YtegehfcnclpdeabDoorShl
import Derived.Test.YtegehfcnclpdeabDoorGen
import Derived.Lib.IndexLaws
import Derived.ProofKit
namespace Go.Proofs.YtegehfcnclpdeabDoor
open Go.RowKit
set_option linter.unusedVariables false

def bl (s : ByteArray) : List UInt8 := s.data.toList
theorem bl_len (s : ByteArray) : (bl s).length = s.size := by simp [bl]
def txts (C : List ByteArray) : List Value := C.map Value.string
theorem txts_at {C : List ByteArray} {k : Nat} {s : ByteArray} (h : C[k]? = some s) : (txts C)[k]? = some (.string s) := by simp [txts, h]
theorem Rd.txt {w : World} {B : Nat} {A : Option Addr} {C : List ByteArray} (h : Rd w B A (txts C)) (k : Nat) (hk : k < C.length) :
    ∃ b o s, A = some ⟨b, o, none⟩ ∧ b < B ∧ Hid (C[k]? = some s) ∧ w.cell? ⟨b, o + k, none⟩ = some (.string s) := by
  obtain ⟨b, o, ha, hb, hc⟩ := h.at_ (txts_at (List.getElem?_eq_getElem hk))
  exact ⟨b, o, _, ha, hb, (List.getElem?_eq_getElem hk : _), hc⟩
/-- All texts are of a size that a machine holds. -/
def Sz (C : List ByteArray) : Prop := ∀ s ∈ C, s.size ≤ 9223372036854775807

/-- Is a byte '0' or '1'? -/
def isBit (c : UInt8) : Bool := decide (c = 48) || decide (c = 49)
def bitsB (s : ByteArray) : Bool := (bl s).all isBit
def hitB (s : ByteArray) (d : Nat) : Bool := decide ((bl s)[d]? = some 49)
/-- Was the bird caught on a day from a on, before b? -/
def inB (s : ByteArray) (a b : Nat) : Bool := (List.range b).any fun d => decide (a ≤ d) && hitB s d
theorem inB_iff {s : ByteArray} {a b : Nat} : inB s a b = true ↔ ∃ d, a ≤ d ∧ d < b ∧ hitB s d = true := by
  unfold inB
  rw [List.any_eq_true]
  constructor
  · rintro ⟨d, hd, h⟩
    rw [Bool.and_eq_true, decide_eq_true_eq] at h
    exact ⟨d, h.1, List.mem_range.1 hd, h.2⟩
  · rintro ⟨d, h1, h2, h3⟩
    exact ⟨d, List.mem_range.2 h2, by rw [Bool.and_eq_true, decide_eq_true_eq]; exact ⟨h1, h3⟩⟩
def oneB (s : ByteArray) : Bool := inB s 0 s.size
theorem hit_lt {s : ByteArray} {d : Nat} (h : hitB s d = true) : d < s.size := by
  have h1 := of_decide_eq_true h
  have h2 := (List.getElem?_eq_some_iff.1 h1).1
  rwa [bl_len] at h2
def fD (s : ByteArray) : Int := Lib.indexByte (bl s) 49
def lD (s : ByteArray) : Int := Lib.lastIndexByte s 49
/-- First and last catch, as days. -/
theorem fD_spec (s : ByteArray) : (fD s = -1 ∧ ∀ d, hitB s d = false) ∨ ∃ f : Nat, fD s = f ∧ hitB s f = true ∧ ∀ d, d < f → hitB s d = false := by
  have hge := Lib.indexByte_ge (bl s) 49
  rcases (show fD s < 0 ∨ 0 ≤ fD s by omega) with h | h
  · have h1 : fD s = -1 := by show Lib.indexByte (bl s) 49 = -1; have : Lib.indexByte (bl s) 49 < 0 := h; omega
    exact .inl ⟨h1, fun d => decide_eq_false (Lib.indexByte_none h1 d)⟩
  · obtain ⟨f, hf⟩ : ∃ f : Nat, fD s = f := ⟨(fD s).toNat, by omega⟩
    obtain ⟨h1, h2⟩ := Lib.indexByte_some (show Lib.indexByte (bl s) 49 = f from hf)
    exact .inr ⟨f, hf, decide_eq_true h1, fun d hd => decide_eq_false (h2 d hd)⟩
theorem data_hit {s : ByteArray} {j : Nat} (hj : j < s.size) : (((s.data[j]!).toNat : Int) = 49) ↔ hitB s j = true := by
  have hj' : j < s.data.size := hj
  have e : (bl s)[j]? = some s.data[j] := by simp [bl]
  rw [getElem!_pos s.data j hj']
  unfold hitB
  rw [decide_eq_true_eq, e]
  constructor
  · intro h
    congr 1
    have : (s.data[j]).toNat = 49 := by omega
    exact UInt8.toNat_inj.1 this
  · intro h
    injection h with h
    rw [h]; rfl
theorem lD_spec (s : ByteArray) : (lD s = -1 ∧ ∀ d, hitB s d = false) ∨ ∃ l : Nat, lD s = l ∧ hitB s l = true ∧ ∀ d, l < d → hitB s d = false := by
  rcases Lib.lastIndexByte_spec s 49 with ⟨h, hn⟩ | ⟨i, hi, h, hc, hn⟩
  · refine .inl ⟨h, fun d => ?_⟩
    cases hh : hitB s d
    · rfl
    · exact absurd ((data_hit (hit_lt hh)).2 hh) (hn d (hit_lt hh))
  · refine .inr ⟨i, h, (data_hit hi).1 hc, fun d hd => ?_⟩
    cases hh : hitB s d
    · rfl
    · exact absurd ((data_hit (hit_lt hh)).2 hh) (hn d hd (hit_lt hh))
theorem Index1_any (s : ByteArray) (w : World) : Calls Tryd.prog 53 #[.string s, .string ⟨#[49]⟩] w fun e w' => e = .returned (.int .i64 (fD s)) ∧ w = w' :=
  (Any.strings_Index_one Tryd.lays143 s 49 w).mono fun e w' ⟨h1, h2⟩ => ⟨h1, h2.symm⟩
theorem Contains1_any (s : ByteArray) (w : World) : Calls Tryd.prog 38 #[.string s, .string ⟨#[49]⟩] w fun e w' => e = .returned (.bool (decide (0 ≤ fD s))) ∧ w = w' :=
  (Any.strings_Contains_one Tryd.lays144 s 49 w).mono fun e w' ⟨h1, h2⟩ => ⟨h1, h2.symm⟩
theorem LastIndex1_any (s : ByteArray) (hs : s.size ≤ 4000000000000000000) (w : World) : Calls Tryd.prog 54 #[.string s, .string ⟨#[49]⟩] w fun e w' => e = .returned (.int .i64 (lD s)) ∧ w = w' :=
  (Any.strings_LastIndex_one Tryd.lays148 s ⟨#[49]⟩ rfl (by omega) w).mono fun e w' ⟨h1, h2⟩ => ⟨h1, h2.symm⟩
/-- What Trim leaves of a text: nothing exactly if all bytes are bits. -/
def trB (s : ByteArray) : ByteArray := ⟨(Lib.trimS (bl s) [48, 49]).toArray⟩
theorem Trim01_any (s : ByteArray) (hs : s.size ≤ 9223372036854775807) (w : World) : Calls Tryd.prog 37 #[.string s, .string ⟨#[48, 49]⟩] w fun e w' => e = .returned (.string (trB s)) ∧ Below w.heap.size w w' :=
  Any.strings_Trim_laid Tryd.lays160 (by kernel_rfl) s ⟨#[48, 49]⟩ w hs (by decide) (ascii_of_all (by decide))
theorem dropWhile_nil {l : List UInt8} {p : UInt8 → Bool} : l.dropWhile p = [] ↔ ∀ x ∈ l, p x = true := by
  induction l with
  | nil => simp
  | cons a r ih =>
    rw [List.dropWhile_cons]
    split
    · rename_i h
      rw [ih]
      simp [h]
    · rename_i h
      simp [h]
theorem trim_nil {l cs : List UInt8} : Lib.trimS l cs = [] ↔ ∀ x ∈ l, cs.contains x = true := by
  unfold Lib.trimS Lib.trimLeftS Lib.trimRightS
  rw [dropWhile_nil]
  constructor
  · intro h
    have h2 : ∀ x ∈ l.reverse.dropWhile (cs.contains ·), cs.contains x = true := fun x hx => h x (by simpa using hx)
    have h3 : l.reverse.dropWhile (cs.contains ·) = [] := by
      cases hd : l.reverse.dropWhile (cs.contains ·) with
      | nil => rfl
      | cons a r =>
        have h4 := List.head?_dropWhile_not (cs.contains ·) l.reverse
        rw [hd] at h4 h2
        simp at h4
        have := h2 a (by simp)
        simp [h4] at this
    intro x hx
    exact dropWhile_nil.1 h3 x (by simpa using hx)
  · intro h x hx
    have : x ∈ l := by
      have h1 := (List.dropWhile_sublist (cs.contains ·) (l := l.reverse)).subset (by simpa using hx)
      simpa using h1
    exact h x this
theorem trB_empty (s : ByteArray) : (trB s).toList.isEmpty = bitsB s := by
  have e : ((trB s).toList.isEmpty = true) ↔ Lib.trimS (bl s) [48, 49] = [] := by
    rw [show (trB s).toList = Lib.trimS (bl s) [48, 49] by simp [trB]]
    simp
  rw [Bool.eq_iff_iff, e, trim_nil]
  unfold bitsB isBit
  rw [List.all_eq_true]
  simp
end Go.Proofs.YtegehfcnclpdeabDoor

/-
  Texts merged into one (Ts1, Rep): contracts of the functions of package lure, what is reckoned of games. Conditions: as each says.
-/
import Derived.Test.YtoenecgjiejljaaDoorMt4
import Derived.Test.YtoenecgjiejljaaDoorMt1
import Derived.Test.YtoenecgjiejljaaDoorMt2
import Derived.Test.YtoenecgjiejljaaDoorProg
import Derived.WalkKit
import Derived.Handy
import Derived.Lib.ConvBytes
import Derived.Lib.AtoiErrMem
import Derived.Laws.IdiomStrings
namespace Go.Proofs.YtoenecgjiejljaaDoor
open Go.RowKit
set_option linter.unusedVariables false

def txts (C : List ByteArray) : List Value := C.map Value.string
theorem txts_at {C : List ByteArray} {k : Nat} {s : ByteArray} (h : C[k]? = some s) : (txts C)[k]? = some (.string s) := by simp [txts, h]
theorem txts_one (C : List ByteArray) : ∀ u ∈ txts C, u.oneCell' = true := by
  intro u hu
  obtain ⟨x, _, rfl⟩ := List.mem_map.1 hu
  rfl
theorem txts_append (a b : List ByteArray) : txts (a ++ b) = txts a ++ txts b := by simp [txts]
theorem txts_length (C : List ByteArray) : (txts C).length = C.length := by simp [txts]
theorem txts_take (C : List ByteArray) (k : Nat) : (txts C).take k = txts (C.take k) := by simp [txts, List.map_take]
theorem Rd.txt {w : World} {B : Nat} {A : Option Addr} {C : List ByteArray} (h : Rd w B A (txts C)) (k : Nat) (hk : k < C.length) :
    ∃ b o s, A = some ⟨b, o, none⟩ ∧ Hid (C[k]? = some s) ∧ w.cell? ⟨b, o + k, none⟩ = some (.string s) := by
  obtain ⟨b, o, ha, _, hc⟩ := h.at_ (txts_at (List.getElem?_eq_getElem hk))
  exact ⟨b, o, _, ha, (List.getElem?_eq_getElem hk : _), hc⟩
/-- All texts are of a size that a machine holds. -/
def Sz (C : List ByteArray) : Prop := ∀ s ∈ C, s.size ≤ 9223372036854775807
theorem Sz.at_ {C : List ByteArray} (h : Sz C) {k : Nat} {s : ByteArray} (hk : C[k]? = some s) : s.size ≤ 9223372036854775807 := h s (List.mem_of_getElem? hk)
end Go.Proofs.YtoenecgjiejljaaDoor
namespace Go.Proofs.YtoenecgjiejljaaDoor
open Go.RowKit
set_option linter.unusedVariables false

theorem bw_free (w : World) (e : TypeId) (s : ByteArray) {j : Nat} (hj : j < s.size) : (Lib.bytesWorld w e s).frozen? ⟨w.heap.size, j, none⟩ = false := by
  have h := Lib.bytesWorld_at_new w e s
  have hl : s.size ≤ (Lib.bytesCells w e s).size := by simp [Lib.bytesCells]
  simp only [World.frozen?, h]
  simp only [Bool.and_eq_false_iff, decide_eq_false_iff_not]
  omega
theorem bw_cells (w : World) (e : TypeId) (s : ByteArray) (i : Nat) (b : UInt8) (hi : i < s.size) (j : Nat) (hj : j < ((bl s).set i b).length) :
    ((Lib.bytesWorld w e s).setCell ⟨w.heap.size, i, none⟩ (.int .u8 b.toNat)).cell? ((⟨w.heap.size, 0, none⟩ : Addr).add j) = some (.int .u8 ((((bl s).set i b)[j]'hj).toNat : Int)) := by
  rw [Go.WideShapes.add_plain, Nat.zero_add]
  rw [List.length_set, bl_len] at hj
  have hc := Lib.bytesWorld_cell w e s j hj
  by_cases h : i = j
  · subst h
    rw [World.cell?_setCell_same _ _ _ hc]
    simp
  · rw [World.cell?_setCell_other _ _ _ _ (fun e => h (by injection e)), hc, List.getElem_set_ne h]
    congr 3
    rw [List.getD_eq_getElem?_getD, List.getElem?_eq_getElem (by simpa using hj)]
    rfl
set_option maxRecDepth 4000 in
theorem replace_any (s : ByteArray) (i : Nat) (b : UInt8) (w : World) (hi : i < s.size) (hsz : s.size ≤ 1000) :
    Calls Tryd.prog 77 #[.string s, .int .i64 i, .int .u8 b.toNat] w fun e w' => e = .returned (.string (sL ((bl s).set i b))) ∧ Below w.heap.size w w' := by
  have k1 := Lib.run_convert_string_bytes (P := Tryd.prog) w 9 98 5 s (u := .string) Tryd.underlying9 Tryd.underlying98 Tryd.underlying5
  have c1 := Lib.bytesWorld_cell w 5 s i hi
  have f1 := bw_free w 5 s hi
  have HB := Lib.hid (Lib.bytesWorld_below w 5 s)
  have k2 := run_convert_bytes_back (P := Tryd.prog) ((Lib.bytesWorld w 5 s).setCell ⟨w.heap.size, i, none⟩ (.int .u8 b.toNat)) 98 9 5 ⟨w.heap.size, 0, none⟩ (grownCap w s.size 0 5) ((bl s).set i b) Tryd.underlying98 Tryd.underlying5 Tryd.underlying9 (bw_cells w 5 s i b hi)
  rw [List.length_set, bl_len] at k2
  have hr : (⟨((bl s).set i b).toArray⟩ : ByteArray) = sL ((bl s).set i b) := rfl
  rw [hr] at k2
  generalize sL ((bl s).set i b) = R at *
  generalize Lib.bytesWorld w 5 s = W at *
  generalize grownCap w s.size 0 5 = cap at *
  have i0 : (0 : Int) ≤ (i : Int) := by omega
  have i1 : (i : Int) < (s.size : Int) := by omega
  clear hr
  go_enter Tryd.func77, Tryd.ntmps77
  go_wp2_with fail
  go_ret
  exact ⟨rfl, Below.setCell HB.out (Nat.le_refl _) _⟩
end Go.Proofs.YtoenecgjiejljaaDoor

/-
  The walks of opponent, copyOf and of the reference's Copy. Conditions: the lists can be read and are not long.
-/
import Derived.Test.YtldepjpalhmpnaaRws
import Derived.Test.YtldepjpalhmpnaaLu5
import Derived.Deep.RegionHeld3
import Derived.Laws.CopyOwn
namespace Go.Proofs.Ytldepjpalhmpnaa
open Go.RowKit
set_option linter.unusedVariables false

theorem results_cell_one {fn : Func} {p : Tmp} {ty : TypeId} (h : fn.results = #[.cell p ty]) (tmps : Array Value) (P : Program) (w : World) :
    (results fn tmps).run P w = ((asAddr (tmps.getD p undef)).run P w).andThen fun a w₁ => (loadVar ty a).run P w₁ := by
  simp only [results, h]
  simp [Sem.run_bind, Result.andThen]
def turnP (p : Pt) : Pt := ⟨-p.y, p.x⟩
def turnS (s : Sg) : Sg := ⟨turnP s.a, turnP s.b⟩
def plusP (p q : Pt) : Pt := ⟨p.x + q.x, p.y + q.y⟩
def plusS (s : Sg) (q : Pt) : Sg := ⟨plusP s.a q, plusP s.b q⟩
theorem opponent_any (d : Int) (w : World) (h0 : 0 ≤ d) (h1 : d ≤ 1) : Calls Try.prog 16 #[.int .i64 d] w fun e w' => e = .returned (.int .i64 (1 - d)) ∧ w = w' := by
  have hw : IntKind.i64.wrap (1 - d) = 1 - d := by rw [IntKind.wrap_i64]; omega
  go_enter Try.func16, Try.ntmps16
  go_wp2_with fail
  go_ret
  exact ⟨rfl, rfl⟩
/-- The cells that make leaves, as a list of zeros. -/
theorem made_zeros {w w1 : World} {n : Nat} {t : TypeId} (h : w1.ownsRow w.heap.size t 1 (.slice (some ⟨w.heap.size, 0, none⟩) n n) n (madeCells (Value.int .i64 0).cells (n * 1)).toList) (hg : w.grownBy w1 none) :
    Below w.heap.size w w1 ∧ w1.heap[w.heap.size]? = some (.cells (ints (List.replicate n 0)).toArray t (0, 0)) := by
  refine ⟨(Below.refl _ _).grown hg (Nat.le_refl _) (by simp), ?_⟩
  have hcells : (madeCells (Value.int .i64 0).cells (n * 1)).toList = ints (List.replicate n 0) := by
    rw [Nat.mul_one]
    exact (toList_madeCells_one (.int .i64 0) n).trans (by simp [ints])
  rw [← hcells]
  exact own_full h
theorem splice_all (l : List Int) : splice (ints (List.replicate l.length 0)) 0 (ints l) = ints l := by
  simp [splice, ints]
theorem copyOf_any (A : Option Addr) (c : Nat) (l : List Int) (w : World) (hr : Rd w w.heap.size A (ints l)) (hn : l.length ≤ 1000) :
    Calls Try.prog 17 #[.slice A l.length c] w fun e w' => e = .returned (.slice (some ⟨w.heap.size, 0, none⟩) l.length l.length) ∧ Hid (w'.heap[w.heap.size]? = some (.cells (ints l).toArray 3 (0, 0))) ∧ Below w.heap.size w w' := by
  have HR := Lib.hid hr
  clear hr
  obtain ⟨i0, hi, hz0, hz1, hz2⟩ := info_parts Try.eInt.hi
  go_enter Try.func17, Try.ntmps17
  go_wp2_with (first
    | (at_make; refine wpList_make_full _ rfl (.tmp 5) (.tmp 5) 22 rfl w.heap.size 3 i0 (.int .i64 0) 1 Try.underlying22 hi hz0 hz1 .i64 .i64 _ _ l.length rfl rfl (by omega) (by omega) (by rw [hz2]; omega) (by simp only [maxLen]; omega) (Nat.le_refl _) ?_; intro w1 hown1 hg1; have F := Lib.hid (made_zeros hown1 hg1); clear hown1 hg1)
    | ((with_reducible show wpList _ _ _ (⟨some 9, _, _, _, _, _⟩ :: _) _ _); go_loud (refine wpList_copy_splice rfl (.tmp 7) (.tmp 8) 22 22 rfl 3 Try.underlying22 (by kernel_rfl) _ _ _ _ _ _ rfl rfl w.heap.size 0 (ints (List.replicate l.length 0)) 3 F.out.2 (ints l) (by simp [ints]) (copy_from (HR.out.below F.out.1 (Nat.le_refl _))) (by simp [ints]) (ints_one _) w.heap.size w F.out.1 (Nat.le_refl _) ?_); intro w2 hg2 hb2; have HB2 := Lib.hid hb2; clear hb2))
  rw [splice_all] at hg2
  have HG := Lib.hid hg2.out
  clear hg2
  go_wp2_with fail
  go_ret
  exact ⟨rfl, HG, HB2.out⟩
end Go.Proofs.Ytldepjpalhmpnaa

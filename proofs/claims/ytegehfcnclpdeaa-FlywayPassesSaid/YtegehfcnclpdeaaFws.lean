/-
  The sum of a row: the walk of chain.sum. Condition: the chain can be read; weights from 0 to 3.
-/
import Derived.Test.YtegehfcnclpdeaaFwp
namespace Go.Proofs.Ytegehfcnclpdeaa
open Go.RowKit Go.Shelf
set_option linter.unusedVariables false
attribute [local go_sem] Oper.semAt_some

/-- A row of at most five weights from 0 to 3. -/
def Okr (l : List Int) : Prop := l.length ≤ 5 ∧ ∀ d ∈ l, 0 ≤ d ∧ d ≤ 3
theorem Okr.pas {l : List Int} (h : Okr l) (x : Pas l) : x.1.1 < l.length ∧ 0 < x.1.2 ∧ x.1.2 ≤ 3 := by
  obtain ⟨⟨k, d⟩, hx, hd⟩ := x
  obtain ⟨h1, _⟩ := List.getElem?_eq_some_iff.1 hx
  exact ⟨h1, hd, (h.2 d (List.mem_of_getElem? hx)).2⟩
def lsum : List Int → Int
  | [] => 0
  | a :: l => a + lsum l
theorem lsum_snoc (l : List Int) (a : Int) : lsum (l ++ [a]) = lsum l + a := by
  induction l with
  | nil => show a + 0 = 0 + a; omega
  | cons b l ih => show b + lsum (l ++ [a]) = b + lsum l + a; rw [ih]; omega
def psum {l : List Int} (pre : List (Pas l)) : Int := lsum (pre.map fun x => x.1.2)
theorem psum_snoc {l : List Int} (pre : List (Pas l)) (x : Pas l) : psum (pre ++ [x]) = psum pre + x.1.2 := by
  unfold psum
  rw [List.map_append]
  exact lsum_snoc _ _
theorem psum_le {l : List Int} (h : Okr l) (pre : List (Pas l)) : 0 ≤ psum pre ∧ psum pre ≤ 3 * pre.length := by
  induction pre with
  | nil => exact ⟨Int.le_refl 0, Int.le_refl 0⟩
  | cons x pre ih =>
    have hx := h.pas x
    have e : psum (x :: pre) = x.1.2 + psum pre := rfl
    rw [e, List.length_cons]
    omega
theorem take_next {l : List Int} {k : Nat} (h : k < l.length) : l.take (k + 1) = l.take k ++ [l.getD k 0] := by
  rw [List.take_add_one, List.getD_eq_getElem?_getD, List.getElem?_eq_getElem h]
  rfl
theorem pasU_sum {l : List Int} (h : ∀ d ∈ l, 0 ≤ d) : ∀ k, k ≤ l.length → lsum ((pasU l k).map (·.2)) = lsum (l.take k)
  | 0, _ => rfl
  | k + 1, hk => by
    have ih := pasU_sum h k (by omega)
    rw [take_next (by omega), lsum_snoc, ← ih]
    have hd : 0 ≤ l.getD k 0 := by
      rw [List.getD_eq_getElem?_getD, List.getElem?_eq_getElem (by omega)]
      exact h _ (List.getElem_mem (by omega))
    show lsum ((if 0 < l.getD k 0 then pasU l k ++ [(k, l.getD k 0)] else pasU l k).map (·.2)) = _
    split
    · rw [List.map_append, List.map_cons, List.map_nil, lsum_snoc]
    · omega
theorem psum_all {l : List Int} (h : ∀ d ∈ l, 0 ≤ d) {ys : List (Pas l)} (hy : ys.map (·.1) = pasU l l.length) : psum ys = lsum l := by
  have h1 := pasU_sum h l.length (Nat.le_refl _)
  rw [List.take_length, ← hy, List.map_map] at h1
  exact h1
set_option maxRecDepth 100000 in
set_option maxHeartbeats 4000000 in
theorem sum_any (A : Option Addr) (rs : List Rw) (c i : Nat) (A' : Option Addr) (c' : Nat) (l : List Int) (hl : Okr l) (w : World) (hr : RdR w w.heap.size A rs) (hi : rs[i]? = some ⟨A', c', l⟩) :
    Calls Try.prog 94 #[.slice A rs.length c, .int .i64 i] w fun e w' => e = .returned (.int .i64 (lsum l)) ∧ Below w.heap.size w w' := by
  refine (callsIn_wide (n := 3)).1 ?_
  refine callsIn_of_wp_marks Try.func94 rfl trivial ?_ rfl
  simp only [Try.ntmps94, List.size_toArray, List.length_cons, List.length_nil, Nat.reduceAdd, Nat.reduceSub, Array.replicate_succ, Array.replicate_zero, List.push_toArray, List.append_toArray, List.nil_append, List.cons_append]
  have b1 := Boxed.new w 3 (.int .i64 0)
  have b2 := Boxed.new (w.alloc (.cells #[.int .i64 0] 3)) 67 (.slice A rs.length c)
  have b3 := Boxed.new ((w.alloc (.cells #[.int .i64 0] 3)).alloc (.cells #[.slice A rs.length c] 67)) 3 (.int .i64 (i : Int))
  rw [World.size_alloc] at b2 b3
  rw [World.size_alloc] at b3
  have hB0 : Below w.heap.size w (((w.alloc (.cells #[.int .i64 0] 3)).alloc (.cells #[.slice A rs.length c] 67)).alloc (.cells #[.int .i64 (i : Int)] 3)) := (((Below.refl _ w).alloc (Nat.le_refl _) _).alloc (by simp) _).alloc (by simp; omega) _
  have HR := Lib.hid (hr.below hB0 (Nat.le_refl _))
  gi_wp2_with (refine ⟨trivial, ?_⟩; gi_at_call 91; refine (callsIn_wide.2 (passages_any _ _ _ _ _)).mono ?_; rintro e w' ⟨rfl, rfl⟩)
  refine wpIn_rangeFunc_ownF (n := 3) rfl (by decide) (gf := 104) (lb := #[.pointer (some ⟨w.heap.size + 1, 0, none⟩), .pointer (some ⟨w.heap.size + 1 + 1, 0, none⟩)]) rfl trivial (enters_of Try.func104 (by kernel_rfl) rfl)
    (pas_stops 2 (by decide) (w.heap.size + 1) (w.heap.size + 1 + 1) w.heap.size A rs c i A' c' l (by have := hl.1; omega) _ (by simp) (by simp) (by simp; omega) (b2.alloc _).cell b3.cell HR.out hi) belowK_t (belowK_b (by simp; omega)) (Below.refl _ _) (fun _ => rfl)
    (fun pre W => (W.cell? ⟨w.heap.size, 0, none⟩ = some (.int .i64 (psum pre)) ∧ W.frozen? ⟨w.heap.size, 0, none⟩ = false) ∧ Below w.heap.size w W)
    (fun _ _ _ => False)
    (OwnFrom.and (Own.from (fun s A B row hs hg hr => ⟨cell_kept hs.1 hg hr, (frozen_kept hs.1 hg hr).trans hs.2⟩) _) (ownFrom_below (Nat.le_refl _) (by simp; omega)))
    (fun _ _ _ _ _ hs _ _ => hs)
    ⟨⟨((b1.alloc _).alloc _).cell, ((b1.alloc _).alloc _).frozen⟩, hB0⟩
    ?a₁ ?assign ?body ?done ?stop
  case assign =>
    intro l x W K hK
    gi_wp2
    exact hK
  case body =>
    rintro ll pre x W ⟨⟨hc, hf⟩, hB⟩ hlen
    have hx := hl.pas x
    have hp := psum_le hl pre
    have h5 := hl.1
    have HN := Lib.hid (psum_snoc pre x)
    generalize psum pre = p at *
    gi_wp2
    exact ⟨KeepsOthers.setCell _ _ _, (Below.refl w.heap.size W).setCell (p := ⟨w.heap.size, 0, none⟩) (Nat.le_refl _) _, ⟨by rw [HN.out]; exact World.cell?_setCell_same' _ _ _ (by rw [hc]; rfl), by rw [World.frozen?_setCell]; exact hf⟩, hB.setCell (p := ⟨w.heap.size, 0, none⟩) (Nat.le_refl _) _⟩
  case done =>
    rintro D ys W hD hys ⟨⟨hc, _⟩, hB⟩ hK
    rw [psum_all (fun d hd => (hl.2 d hd).1) hys] at hc
    gi_wp2
    refine ⟨by simp, .inl ⟨_, _, rfl, run_takeDeferred hK, ?_⟩⟩
    exact ⟨_, results_tmp rfl _ _ _, rfl, hB.trans (belowK_b (w := w) (Nat.le_refl _) W D _ _ (by simp at hD; omega) hK rfl rfl)⟩
  case stop =>
    rintro D c pre W _ _ h _
    exact h.elim
end Go.Proofs.Ytegehfcnclpdeaa

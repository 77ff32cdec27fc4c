/-
  Ends: the walk of chain.isEnd. Condition: the chain can be read.
-/
import Derived.Test.YtegehfcnclpdeaaFws
namespace Go.Proofs.Ytegehfcnclpdeaa
open Go.RowKit Go.Shelf
set_option linter.unusedVariables false
attribute [local go_sem] Oper.semAt_some

/-- All passages of a row lead to i. -/
def endB (l : List Int) (i : Nat) : Bool := (pasU l l.length).all fun p => decide (p.1 = i)
theorem mem_pre {l : List Int} {pre : List (Pas l)} (h : pre.map (·.1) <+: pasU l l.length) {y : Pas l} (hy : y ∈ pre) : y.1 ∈ pasU l l.length := h.subset (List.mem_map_of_mem hy)
set_option maxRecDepth 100000 in
set_option maxHeartbeats 4000000 in
theorem isEnd_any (A : Option Addr) (rs : List Rw) (c i : Nat) (A' : Option Addr) (c' : Nat) (l : List Int) (hl : l.length ≤ 100) (w : World) (hr : RdR w w.heap.size A rs) (hi : rs[i]? = some ⟨A', c', l⟩) :
    Calls Try.prog 62 #[.slice A rs.length c, .int .i64 i] w fun e w' => e = .returned (.bool (endB l i)) ∧ Below w.heap.size w w' := by
  refine (callsIn_wide (n := 3)).1 ?_
  refine callsIn_of_wp_marks Try.func62 rfl trivial ?_ rfl
  simp only [Try.ntmps62, List.size_toArray, List.length_cons, List.length_nil, Nat.reduceAdd, Nat.reduceSub, Array.replicate_succ, Array.replicate_zero, List.push_toArray, List.append_toArray, List.nil_append, List.cons_append]
  have a0 := Boxed.new w 3 (.int .i64 (i : Int))
  have a1 := Boxed.new (w.alloc (.cells #[.int .i64 (i : Int)] 3)) 4 (.bool false)
  have b2 := Boxed.new ((w.alloc (.cells #[.int .i64 (i : Int)] 3)).alloc (.cells #[.bool false] 4)) 67 (.slice A rs.length c)
  have b3 := Boxed.new (((w.alloc (.cells #[.int .i64 (i : Int)] 3)).alloc (.cells #[.bool false] 4)).alloc (.cells #[.slice A rs.length c] 67)) 3 (.int .i64 (i : Int))
  simp only [World.size_alloc] at a1 b2 b3
  have hB0 : Below w.heap.size w ((((w.alloc (.cells #[.int .i64 (i : Int)] 3)).alloc (.cells #[.bool false] 4)).alloc (.cells #[.slice A rs.length c] 67)).alloc (.cells #[.int .i64 (i : Int)] 3)) := ((((Below.refl _ w).alloc (Nat.le_refl _) _).alloc (by simp) _).alloc (by simp; omega) _).alloc (by simp; omega) _
  have HR := Lib.hid (hr.below hB0 (Nat.le_refl _))
  have c0 := (a0.alloc (.cells #[.bool false] 4)).cell
  gi_wp2_with (refine ⟨trivial, ?_⟩; gi_at_call 91; refine (callsIn_wide.2 (passages_any _ _ _ _ _)).mono ?_; rintro e w' ⟨rfl, rfl⟩)
  refine wpIn_rangeFunc_ownF (n := 3) rfl (by decide) (gf := 104) (lb := #[.pointer (some ⟨w.heap.size + 1 + 1, 0, none⟩), .pointer (some ⟨w.heap.size + 1 + 1 + 1, 0, none⟩)]) rfl trivial (enters_of Try.func104 (by kernel_rfl) rfl)
    (pas_stops 2 (by decide) (w.heap.size + 1 + 1) (w.heap.size + 1 + 1 + 1) w.heap.size A rs c i A' c' l hl _ (by simp) (by simp) (by simp; omega) (b2.alloc _).cell b3.cell HR.out hi) belowK_t (belowK_b (by simp; omega)) (Below.refl _ _) (fun _ => rfl)
    (fun pre W => ((∀ y ∈ pre, y.1.1 = i) ∧ W.cell? ⟨w.heap.size, 0, none⟩ = some (.int .i64 (i : Int)) ∧ W.cell? ⟨w.heap.size + 1, 0, none⟩ = some (.bool false) ∧ W.frozen? ⟨w.heap.size + 1, 0, none⟩ = false) ∧ Below w.heap.size w W)
    (fun c pre W => (c = .ret ∧ (∃ y ∈ pre, y.1.1 ≠ i) ∧ W.cell? ⟨w.heap.size + 1, 0, none⟩ = some (.bool false)) ∧ Below w.heap.size w W)
    (OwnFrom.and (Own.from (fun s A B row hs hg hr => ⟨hs.1, cell_kept hs.2.1 hg hr, cell_kept hs.2.2.1 hg hr, (frozen_kept hs.2.2.1 hg hr).trans hs.2.2.2⟩) _) (ownFrom_below (Nat.le_refl _) (by simp; omega)))
    (fun c => OwnFrom.and (Own.from (fun s A B row hs hg hr => ⟨hs.1, hs.2.1, cell_kept hs.2.2 hg hr⟩) _) (ownFrom_below (Nat.le_refl _) (by simp; omega)))
    ⟨⟨by simp, (((a0.alloc _).alloc _).alloc _).cell, ((a1.alloc _).alloc _).cell, ((a1.alloc _).alloc _).frozen⟩, hB0⟩
    ?a₁ ?assign ?body ?done ?stop
  case assign =>
    intro l x W K hK
    gi_wp2
    exact hK
  case body =>
    rintro ll pre x W ⟨⟨hp, hci, hcr, hfr⟩, hB⟩ hlen
    by_cases hx : x.1.1 = i
    · have e1 : ((x.1.1 : Int) != (i : Int)) = false := by simp; omega
      gi_wp2
      exact ⟨KeepsOthers.refl _, Below.refl _ _, ⟨fun y hy => (List.mem_append.1 hy).elim (hp y) (fun e => by simp at e; rw [e]; exact hx), hci, hcr, hfr⟩, hB⟩
    · have e1 : ((x.1.1 : Int) != (i : Int)) = true := by simp; omega
      gi_wp2
      exact ⟨KeepsOthers.setCell _ _ _, ⟨rfl, ⟨x, List.mem_append.2 (.inr (by simp)), hx⟩, World.cell?_setCell_same' _ _ _ (by rw [hcr]; rfl)⟩, hB.setCell (p := ⟨w.heap.size + 1, 0, none⟩) (by simp) _⟩
  case done =>
    rintro D ys W hD hys ⟨⟨hne, _, hcr, hfr⟩, hB⟩ hK
    gi_wp2
    have hK' := (KeepsOthers.setCell W ⟨w.heap.size + 1, 0, none⟩ (.bool true)).same D _ hK rfl
    refine ⟨by simp, .inl ⟨_, _, rfl, run_takeDeferred hK', ?_⟩⟩
    have hc5 := cell_kept (World.cell?_setCell_same' W ⟨w.heap.size + 1, 0, none⟩ (.bool true) (by rw [hcr]; rfl)) (grownBy_putObj' _ D (.deferred none)) (fun r e => by cases e; exact ⟨_, hK', rfl⟩)
    have hE : endB l i = true := by
      unfold endB
      rw [← hys, List.all_eq_true]
      intro p hp
      obtain ⟨y, hy, rfl⟩ := List.mem_map.1 hp
      exact decide_eq_true (hne y hy)
    refine ⟨.bool true, ?_, by rw [hE], (hB.setCell (p := ⟨w.heap.size + 1, 0, none⟩) (by simp) _).trans (belowK_b (w := w) (Nat.le_refl _) _ D _ _ (by simp at hD; omega) hK' rfl rfl)⟩
    simp [results, Try.f62, go_sem, hc5]
  case stop =>
    rintro D c pre W hD hpre ⟨⟨rfl, ⟨y, hy, hne⟩, hcr⟩, hB⟩ hK
    gi_wp2
    refine ⟨by simp, .inl ⟨_, _, rfl, run_takeDeferred hK, ?_⟩⟩
    have hc5 := cell_kept hcr (grownBy_putObj' _ D (.deferred none)) (fun r e => by cases e; exact ⟨_, hK, rfl⟩)
    have hE : endB l i = false := by
      cases h : endB l i
      · rfl
      · exact absurd (of_decide_eq_true ((List.all_eq_true.1 h) _ (mem_pre hpre hy))) hne
    refine ⟨.bool false, ?_, by rw [hE], hB.trans (belowK_b (w := w) (Nat.le_refl _) W D _ _ (by simp at hD; omega) hK rfl rfl)⟩
    simp [results, Try.f62, go_sem, hc5]
end Go.Proofs.Ytegehfcnclpdeaa

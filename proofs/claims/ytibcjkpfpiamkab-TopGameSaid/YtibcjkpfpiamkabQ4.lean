/-
  Texts merged into one (Lu13, Lu14, Lu15, LwBefore, LwRanks, LwWithin, Lu16, Lu17): contracts of the functions of package lure, what is reckoned of games. Conditions: as each says.
-/
import Derived.Test.YtibcjkpfpiamkabQ3
namespace Go.Proofs.Ytibcjkpfpiamkab
open Go.RowKit
set_option linter.unusedVariables false

end Go.Proofs.Ytibcjkpfpiamkab
namespace Go.Proofs.Ytibcjkpfpiamkab
open Go.RowKit
set_option linter.unusedVariables false

theorem Rd.alloc_up {w : World} {A : Option Addr} {xs : List Value} (h : Rd w w.heap.size A xs) (o : Obj) : Rd (w.alloc o) (w.alloc o).heap.size A xs := h.up ((Below.refl _ w).alloc (Nat.le_refl _) o)
def allocs (w : World) (os : List Obj) : World := os.foldl World.alloc w
theorem allocs_below : ∀ (os : List Obj) (w : World), Below w.heap.size w (allocs w os)
  | [], w => Below.refl _ _
  | o :: os, w => by
    have h := allocs_below os (w.alloc o)
    exact ((Below.refl _ w).alloc (Nat.le_refl _) o).trans (h.mono (by simp))
theorem allocs_at : ∀ (os : List Obj) (w : World) (i : Nat) (o : Obj), os[i]? = some o → (allocs w os).heap[w.heap.size + i]? = some o
  | [], w, i, o, h => by simp at h
  | x :: os, w, 0, o, h => by
    simp at h
    subst h
    have h1 := heap_alloc_new w x
    have h2 := (allocs_below os (w.alloc x)).block w.heap.size (by simp)
    exact h2.trans h1
  | x :: os, w, i + 1, o, h => by
    have h1 := allocs_at os (w.alloc x) i o (by simpa using h)
    have e : (w.alloc x).heap.size + i = w.heap.size + (i + 1) := by simp; omega
    rw [e] at h1
    exact h1
/-- The game of the first example, as known lays it from block a on. -/
def kg1 (a : Nat) : Gv := ⟨some ⟨a, 0, none⟩, 4, [0, 1, 1, 0], some ⟨a + 5, 0, none⟩, 4, [⟨some ⟨a + 1, 0, none⟩, 2, [1, 2]⟩, ⟨some ⟨a + 2, 0, none⟩, 2, [0, 3]⟩, ⟨some ⟨a + 3, 0, none⟩, 1, [3]⟩, ⟨some ⟨a + 4, 0, none⟩, 1, [3]⟩]⟩
def kg2 (a b : Nat) : Gv := ⟨some ⟨a, 0, none⟩, 4, [0, 1, 1, 0], some ⟨a + 5, 0, none⟩, 4, [⟨some ⟨b, 0, none⟩, 1, [1]⟩, ⟨some ⟨a + 2, 0, none⟩, 2, [0, 3]⟩, ⟨some ⟨a + 3, 0, none⟩, 1, [3]⟩, ⟨some ⟨a + 4, 0, none⟩, 1, [3]⟩]⟩
theorem kfit1 (a : Nat) : Gfit (kg1 a) := ⟨Nat.le_refl 4, (by decide : 4 ≤ maxLen), Nat.le_refl 4, (by decide : 4 ≤ maxLen), fun r hr => by
  simp [kg1] at hr
  rcases hr with rfl | rfl | rfl | rfl <;> exact ⟨by simp, by simp [maxLen]⟩⟩
theorem kfit2 (a b : Nat) : Gfit (kg2 a b) := ⟨Nat.le_refl 4, (by decide : 4 ≤ maxLen), Nat.le_refl 4, (by decide : 4 ≤ maxLen), fun r hr => by
  simp [kg2] at hr
  rcases hr with rfl | rfl | rfl | rfl <;> exact ⟨by simp, by simp [maxLen]⟩⟩
def kObjs (a : Nat) : List Obj := [.cells #[.int .i64 0, .int .i64 1, .int .i64 1, .int .i64 0] 3, .cells #[.int .i64 1, .int .i64 2] 3, .cells #[.int .i64 0, .int .i64 3] 3, .cells #[.int .i64 3] 3, .cells #[.int .i64 3] 3,
  .cells #[.slice (some ⟨a + 1, 0, none⟩) 2 2, .slice (some ⟨a + 2, 0, none⟩) 2 2, .slice (some ⟨a + 3, 0, none⟩) 1 1, .slice (some ⟨a + 4, 0, none⟩) 1 1] 22,
  .cells #[.slice (some ⟨a, 0, none⟩) 4 4, .slice (some ⟨a + 5, 0, none⟩) 4 4] 25, .cells #[.int .i64 3] 3]
/-- What lies where, behind the laying. -/
structure KW (a : Nat) (W : World) : Prop where
  b0 : W.heap[a]? = some (.cells #[.int .i64 0, .int .i64 1, .int .i64 1, .int .i64 0] 3 (0, 0))
  b1 : W.heap[a + 1]? = some (.cells #[.int .i64 1, .int .i64 2] 3 (0, 0))
  b2 : W.heap[a + 2]? = some (.cells #[.int .i64 0, .int .i64 3] 3 (0, 0))
  b3 : W.heap[a + 3]? = some (.cells #[.int .i64 3] 3 (0, 0))
  b4 : W.heap[a + 4]? = some (.cells #[.int .i64 3] 3 (0, 0))
  b5 : W.heap[a + 5]? = some (.cells #[.slice (some ⟨a + 1, 0, none⟩) 2 2, .slice (some ⟨a + 2, 0, none⟩) 2 2, .slice (some ⟨a + 3, 0, none⟩) 1 1, .slice (some ⟨a + 4, 0, none⟩) 1 1] 22 (0, 0))
  b6 : W.heap[a + 6]? = some (.cells #[.slice (some ⟨a, 0, none⟩) 4 4, .slice (some ⟨a + 5, 0, none⟩) 4 4] 25 (0, 0))
theorem KW.up {a : Nat} {W W' : World} (h : KW a W) (hb : Below W.heap.size W W') : KW a W' :=
  ⟨(hb.block _ (lt_of_block h.b0)).trans h.b0, (hb.block _ (lt_of_block h.b1)).trans h.b1, (hb.block _ (lt_of_block h.b2)).trans h.b2, (hb.block _ (lt_of_block h.b3)).trans h.b3, (hb.block _ (lt_of_block h.b4)).trans h.b4, (hb.block _ (lt_of_block h.b5)).trans h.b5, (hb.block _ (lt_of_block h.b6)).trans h.b6⟩
theorem KW.game {a : Nat} {W : World} (h : KW a W) : RdG W W.heap.size (kg1 a) :=
  ⟨Rd.of_block h.b0, Rd.of_block h.b5, fun r hr => by
    simp [kg1] at hr
    rcases hr with rfl | rfl | rfl | rfl
    · exact Rd.of_block h.b1
    · exact Rd.of_block h.b2
    · exact Rd.of_block h.b3
    · exact Rd.of_block h.b4⟩
theorem kworld (w : World) : ∃ W, allocs w (kObjs w.heap.size) = W ∧ KW w.heap.size W ∧ Rd W W.heap.size (some ⟨w.heap.size + 7, 0, none⟩) (ints [3]) ∧ Below w.heap.size w W ∧ W.heap.size = w.heap.size + 8 := by
  have hat := fun i o h => allocs_at (kObjs w.heap.size) w i o h
  refine ⟨_, rfl, ⟨hat 0 _ rfl, hat 1 _ rfl, hat 2 _ rfl, hat 3 _ rfl, hat 4 _ rfl, hat 5 _ rfl, hat 6 _ rfl⟩, Rd.of_block (hat 7 _ rfl), allocs_below _ _, ?_⟩
  simp [allocs, kObjs]
theorem cell_heap {w w' : World} {b o : Nat} (h : w'.heap[b]? = w.heap[b]?) : w'.cell? ⟨b, o, none⟩ = w.cell? ⟨b, o, none⟩ := by
  unfold World.cell?
  simp only [h]
/-- The first row of moves is another one. -/
structure KW2 (a : Nat) (w W1 W2 W : World) : Prop where
  e1 : w.alloc (.cells #[.int .i64 1] 3) = W1
  e2 : W1.setCell ⟨a + 5, 0, none⟩ (.slice (some ⟨w.heap.size, 0, none⟩) 1 1) = W2
  e3 : W2.alloc (.cells #[.int .i64 3] 3) = W
  c1 : W1.cell? ⟨a + 5, 0, none⟩ = some (.slice (some ⟨a + 1, 0, none⟩) 2 2)
  f1 : W1.frozen? ⟨a + 5, 0, none⟩ = false
  d0 : W2.cell? ⟨a + 6, 0, none⟩ = some (.slice (some ⟨a, 0, none⟩) 4 4)
  d1 : W2.cell? ⟨a + 6, 1, none⟩ = some (.slice (some ⟨a + 5, 0, none⟩) 4 4)
  g : RdG W W.heap.size (kg2 a w.heap.size)
  r : Rd W W.heap.size (some ⟨w.heap.size + 1, 0, none⟩) (ints [3])
  b : Below a w W
  s : W.heap.size = w.heap.size + 2
  s2 : W2.heap.size = w.heap.size + 1
  k : ∀ b, b < w.heap.size → b ≠ a + 5 → W.heap[b]? = w.heap[b]?
theorem kworld2 {a : Nat} {w : World} (h : KW a w) (ha : a + 8 ≤ w.heap.size) : ∃ W1 W2 W, KW2 a w W1 W2 W := by
  obtain ⟨W1, e1⟩ : ∃ W1, w.alloc (.cells #[.int .i64 1] 3) = W1 := ⟨_, rfl⟩
  have k1 := heap_alloc_new w (.cells #[.int .i64 1] 3)
  have hb1 : Below w.heap.size w (w.alloc (.cells #[.int .i64 1] 3)) := (Below.refl _ _).alloc (Nat.le_refl _) _
  have s1 : (w.alloc (.cells #[.int .i64 1] 3)).heap.size = w.heap.size + 1 := by simp
  rw [e1] at k1 hb1 s1
  have H1 := h.up hb1
  obtain ⟨W2, e2⟩ : ∃ W2, W1.setCell ⟨a + 5, 0, none⟩ (.slice (some ⟨w.heap.size, 0, none⟩) 1 1) = W2 := ⟨_, rfl⟩
  have s2 : W2.heap.size = W1.heap.size := by rw [← e2]; simp [World.setCell]
  have k5 : W2.heap[a + 5]? = some (.cells #[.slice (some ⟨w.heap.size, 0, none⟩) 1 1, .slice (some ⟨a + 2, 0, none⟩) 2 2, .slice (some ⟨a + 3, 0, none⟩) 1 1, .slice (some ⟨a + 4, 0, none⟩) 1 1] 22 (0, 0)) := by
    rw [← e2, blk_set H1.b5]; rfl
  have kf : ∀ b, b ≠ a + 5 → W2.heap[b]? = W1.heap[b]? := fun b hb => by rw [← e2]; exact heap_set_far hb _ _
  have hb2 : Below a w W2 := by rw [← e2]; exact Below.setCell (hb1.mono (by omega)) (by simp) _
  have hb3 : Below W2.heap.size W2 (W2.alloc (.cells #[.int .i64 3] 3)) := (Below.refl _ _).alloc (Nat.le_refl _) _
  have k7 := heap_alloc_new W2 (.cells #[.int .i64 3] 3)
  have up : ∀ b o, W2.heap[b]? = some o → (W2.alloc (.cells #[.int .i64 3] 3)).heap[b]? = some o := fun b o hbo => (hb3.block b (lt_of_block hbo)).trans hbo
  have k6 := (kf (a + 6) (by omega)).trans H1.b6
  refine ⟨W1, W2, _, e1, e2, rfl, by rw [blk_cell H1.b5]; rfl, blk_free H1.b5 0, by rw [blk_cell k6]; rfl, by rw [blk_cell k6]; rfl, ⟨Rd.of_block (up _ _ ((kf a (by omega)).trans H1.b0)), Rd.of_block (up _ _ k5), fun r hr => ?_⟩, ?_, hb2.trans (hb3.mono (by omega)), by simp; omega, by omega, fun b hb hne => (hb3.block b (by omega)).trans ((kf b hne).trans (hb1.block b hb))⟩
  · simp [kg2] at hr
    rcases hr with rfl | rfl | rfl | rfl
    · exact Rd.of_block (up _ _ ((kf _ (by omega)).trans k1))
    · exact Rd.of_block (up _ _ ((kf _ (by omega)).trans H1.b2))
    · exact Rd.of_block (up _ _ ((kf _ (by omega)).trans H1.b3))
    · exact Rd.of_block (up _ _ ((kf _ (by omega)).trans H1.b4))
  · rw [s2, s1] at k7
    exact Rd.of_block k7
theorem kn1 (a : Nat) : ranL (kg1 a).G [3] = [2, 3, 1, 0] := by
  have : (kg1 a).G = (kg1 0).G := rfl
  rw [this]
  decide +kernel
theorem ke1 (a : Nat) : askE (kg1 a).G [3] = 0 := by
  have : (kg1 a).G = (kg1 0).G := rfl
  rw [this]
  decide +kernel
theorem kn2 (a b : Nat) : freL (kg2 a b).G [3] = [0, 1] := by
  have : (kg2 a b).G = (kg2 0 0).G := rfl
  rw [this]
  decide +kernel
theorem ke2 (a b : Nat) : askE (kg2 a b).G [3] = 0 := by
  have : (kg2 a b).G = (kg2 0 0).G := rfl
  rw [this]
  decide +kernel
end Go.Proofs.Ytibcjkpfpiamkab
namespace Go.Proofs.Ytibcjkpfpiamkab
open Go.RowKit
set_option linter.unusedVariables false

def largeB (g : Gv) : Bool := decide (100 < g.own.length) || (decide (100 < g.rs.length) || g.rs.any fun r => decide (100 < r.l.length))
theorem large_yes {g : Gv} {k : Nat} {r : Rw} (h : g.rs[k]? = some r) (hl : 100 < r.l.length) : largeB g = true := by
  unfold largeB
  rw [show (g.rs.any fun r => decide (100 < r.l.length)) = true from List.any_eq_true.2 ⟨r, List.mem_of_getElem? h, decide_eq_true hl⟩]
  simp
theorem large_no {g : Gv} (h0 : ¬ 100 < g.own.length) (h1 : ¬ 100 < g.rs.length) (h : ∀ (k : Nat) r, k < g.rs.length → g.rs[k]? = some r → ¬ 100 < r.l.length) : largeB g = false := by
  unfold largeB
  rw [decide_eq_false h0, decide_eq_false h1, Bool.false_or, Bool.false_or, List.any_eq_false]
  intro r hr
  obtain ⟨k, hk, he⟩ := List.getElem_of_mem hr
  have := h k r hk (by rw [← he]; exact List.getElem?_eq_getElem hk)
  simpa using this
/-- What a game that is not long gives. -/
theorem large_fit {g : Gv} (h : largeB g = false) : g.own.length ≤ 100 ∧ g.rs.length ≤ 100 ∧ ∀ r ∈ g.rs, r.l.length ≤ 100 := by
  unfold largeB at h
  simp only [Bool.or_eq_false_iff, decide_eq_false_iff_not, List.any_eq_false, decide_eq_true_eq] at h
  exact ⟨by omega, by omega, fun r hr => by have := h.2.2 r hr; omega⟩
set_option maxRecDepth 4000 in
set_option maxHeartbeats 800000 in
theorem Large_any (g : Gv) (w : World) (hr : RdG w w.heap.size g) (hf : Gfit g) :
    Calls Try.prog 6 #[g.v] w fun e w' => e = .returned (.bool (largeB g)) ∧ Below w.heap.size w w' := by
  obtain ⟨W, hW, p0, p1, hz, hb, hr1⟩ := box_game w g 25 hr
  have HY := Lib.hid (fun k r h hl => large_yes (g := g) (k := k) (r := r) h hl)
  have HN := Lib.hid (fun h0 h1 h => large_no (g := g) h0 h1 h)
  have H1 := Lib.hid (show 100 < g.own.length → largeB g = true from fun h => by unfold largeB; rw [decide_eq_true h]; rfl)
  have H2 := Lib.hid (show 100 < g.rs.length → largeB g = true from fun h => by unfold largeB; rw [decide_eq_true h]; simp)
  have R1 := Lib.hid hr1.r
  have B0 := Lib.hid hb
  have HF := Lib.hid hf.rs
  have hn0 : g.own.length ≤ 9223372036854775807 := by have := hf.n0; have := hf.m0; unfold maxLen at this; omega
  have hn1 : g.rs.length ≤ 9223372036854775807 := by have := hf.n1; have := hf.m1; unfold maxLen at this; omega
  generalize largeB g = B at *
  obtain ⟨A0, c0, own, A1, c1, rs⟩ := g
  unfold Gv.v
  simp only at *
  clear hr hf hb hr1
  by_cases h0 : 100 < own.length
  · have e0 : decide ((100 : Int) < (own.length : Int)) = true := by rw [decide_eq_true_eq]; omega
    have HE := Lib.hid (H1.out h0)
    clear h0
    go_enter Try.func6, Try.ntmps6
    go_wp2_with fail
    go_ret
    exact ⟨by rw [HE.out]; rfl, B0.out⟩
  · have e0 : decide ((100 : Int) < (own.length : Int)) = false := by rw [decide_eq_false_iff_not]; omega
    by_cases h1 : 100 < rs.length
    · have e1 : decide ((100 : Int) < (rs.length : Int)) = true := by rw [decide_eq_true_eq]; omega
      have HE := Lib.hid (H2.out h1)
      clear h0 h1
      go_enter Try.func6, Try.ntmps6
      go_wp2_with fail
      go_ret
      exact ⟨by rw [HE.out]; rfl, B0.out⟩
    · have e1 : decide ((100 : Int) < (rs.length : Int)) = false := by rw [decide_eq_false_iff_not]; omega
      have HE := Lib.hid (HN.out h0 h1)
      clear h0 h1
      go_enter Try.func6, Try.ntmps6
      go_wp2_with fail
      clear hW
      go_loopw [3] (fun i wr => ∃ k : Nat, k ≤ rs.length ∧ i = .int .i64 k ∧ (∀ (j : Nat) r, j < k → rs[j]? = some r → ¬ 100 < r.l.length) ∧ wr = W) (fun i _ => rs.length - (intOf i).toNat)
      case atStart => exact ⟨0, by omega, rfl, fun j r hj => by omega, rfl⟩
      case round =>
        obtain ⟨k, hk, rfl, hall, rfl⟩ := hrel
        have HA := Lib.hid hall
        clear hall
        by_cases hlt : k < rs.length
        · obtain ⟨b2, o', A', c', l, rfl, hx, hc', hl⟩ := R1.out.row k hlt
          have hll := HF.out _ (List.mem_of_getElem? hx.out)
          unfold maxLen at hll
          simp only at hll
          by_cases h3 : 100 < l.length
          · have e3 : decide ((100 : Int) < (l.length : Int)) = true := by rw [decide_eq_true_eq]; omega
            have HQ := Lib.hid (HY.out k _ hx.out h3)
            clear h3 hll
            go_wp2_with fail
            go_ret
            exact ⟨by rw [HQ.out]; rfl, B0.out⟩
          · have e3 : decide ((100 : Int) < (l.length : Int)) = false := by rw [decide_eq_false_iff_not]; omega
            have HQ := Lib.hid (show ∀ (j : Nat) r, j < k + 1 → rs[j]? = some r → ¬ 100 < r.l.length from fun j r hj hr => by
              by_cases hjk : j = k
              · subst hjk
                obtain rfl := Option.some.inj (hx.out.symm.trans hr)
                exact h3
              · exact HA.out j r (by omega) hr)
            clear h3 hll
            go_wp2_with fail
            go_roundw
            case rel => exact ⟨k + 1, by omega, by go_num, HQ.out, by first | rfl | trivial⟩
            case measure => simp [intOf]; omega
        · have hks : k = rs.length := by omega
          subst hks
          have HQ := Lib.hid (HE.out HA.out)
          go_wp2_with fail
          go_ret
          exact ⟨by rw [HQ.out]; rfl, B0.out⟩
end Go.Proofs.Ytibcjkpfpiamkab
namespace Go.Proofs.Ytibcjkpfpiamkab
open Go.RowKit
set_option linter.unusedVariables false

theorem Same_b (A1 A2 : Option Addr) (c1 c2 : Nat) (l : List Int) (n1 n2 : Nat) (w : World) (hl1 : l.length = n1) (hl2 : l.length = n2) (hr1 : Rd w w.heap.size A1 (ints l)) (hr2 : Rd w w.heap.size A2 (ints l)) (hn : n1 ≤ 1000) :
    Calls Try.prog 5 #[.slice A1 n1 c1, .slice A2 n2 c2] w fun e w' => e = .returned (.bool true) ∧ Below w.heap.size w w' :=
  (SameInts_same A1 A2 c1 c2 l n1 n2 w hl1 hl2 hr1 hr2 hn).mono fun e w' ⟨he, m, hm⟩ => ⟨he, by rw [hm]; exact bdN (Below.refl _ _) m⟩
theorem bef_le (G : Gm) (L : List Int) : (befL G L).length ≤ 16 := by
  unfold befL
  split
  · exact lst_le _
  · simp
end Go.Proofs.Ytibcjkpfpiamkab
namespace Go.Proofs.Ytibcjkpfpiamkab
open Go.RowKit
set_option linter.unusedVariables false

theorem lst_len {x n : Nat} (hx : x < 2 ^ n) (hn : n ≤ 16) : (lst x).length = cntK x.testBit n := by
  rw [← cntK_list]
  unfold lst
  rw [listK_high (fun j hj => high_bits hx hj) hn]
theorem ran_le (G : Gm) (L : List Int) (h : gE G = 0 → G.own.length ≤ 16) : (ranL G L).length ≤ 16 := by
  unfold ranL
  split
  · rename_i h1
    rw [rkL_len]; exact h (askE_zero h1).1
  · simp
theorem win_le (G : Gm) (L : List Int) : (winL G L).length ≤ 16 := by
  unfold winL
  split
  · exact lst_le _
  · simp
theorem fre_le (G : Gm) (L : List Int) : (freL G L).length ≤ 16 := by
  unfold freL
  split
  · exact lst_le _
  · simp
theorem wit_le (G : Gm) (L : List Int) (mv : Int) : (witL G L mv).length ≤ 16 := by
  unfold witL
  split
  · exact lst_le _
  · simp
theorem parts_len (G : Gm) (L : List Int) : (winL G L).length + (freL G L).length = (ranL G L).length := by
  unfold winL freL ranL
  by_cases h : askE G L = 0
  · rw [if_pos h, if_pos h, if_pos h]
    obtain ⟨h1, h2⟩ := askE_zero h
    have h16 := (gE_zero h1).le
    have hg : gatN L < 2 ^ G.own.length := gat_lt h2 (by omega)
    rw [rkL_len, lst_len (show wonN G (gatN L) < 2 ^ G.own.length from lv_lt hg _) h16, lst_len (free_lt G _) h16]
    exact won_free G _
  · rw [if_neg h, if_neg h, if_neg h]; rfl
end Go.Proofs.Ytibcjkpfpiamkab
namespace Go.Proofs.Ytibcjkpfpiamkab
open Go.RowKit
set_option linter.unusedVariables false

end Go.Proofs.Ytibcjkpfpiamkab
namespace Go.Proofs.Ytibcjkpfpiamkab
open Go.RowKit
set_option linter.unusedVariables false

theorem sb {P : Program} {f : FuncId} {args : Array Value} {w : World} {v : Value} (h : Calls P f args w fun e w' => e = .returned v ∧ w = w') : Calls P f args w fun e w' => e = .returned v ∧ Below w.heap.size w w' := h.mono fun _ _ ⟨he, hw⟩ => ⟨he, by subst hw; exact Below.refl _ _⟩
theorem areL_bad {G : Gm} {R : List Int} {k : Nat} {d : Int} (h : R[k]? = some d) (hb : areB d = false) : areL G R = false := by
  unfold areL
  rw [show R.all areB = false from by rw [List.all_eq_false]; exact ⟨d, List.mem_of_getElem? h, by rw [hb]; decide⟩]
  rfl
theorem areL_end {G : Gm} {R : List Int} (h : ∀ (j : Nat) d, j < R.length → R[j]? = some d → areB d = true) : areL G R = decide (R.length = G.own.length) := by
  unfold areL
  rw [show R.all areB = true from List.all_eq_true.2 fun d hd => by
    obtain ⟨k, hk, he⟩ := List.getElem_of_mem hd
    exact h k d hk (by rw [← he]; exact List.getElem?_eq_getElem hk)]
  rfl
theorem each_next {p : Int → Bool} {R : List Int} {k : Nat} {d : Int} (hk : R[k]? = some d) (h : p d = true) (ha : ∀ (j : Nat) e, j < k → R[j]? = some e → p e = true) : ∀ (j : Nat) e, j < k + 1 → R[j]? = some e → p e = true := fun j e hj he => by
  by_cases hjk : j = k
  · subst hjk
    obtain rfl := Option.some.inj (hk.symm.trans he)
    exact h
  · exact ha j e (by omega) he
set_option maxRecDepth 4000 in
set_option maxHeartbeats 800000 in
theorem areRanks_any (g : Gv) (A : Option Addr) (c : Nat) (R : List Int) (w : World) (hr : RdG w w.heap.size g) (hf : Gfit g) (hq : Rd w w.heap.size A (ints R)) (hn : R.length ≤ 9223372036854775807) :
    Calls Try.prog 25 #[g.v, .slice A R.length c] w fun e w' => e = .returned (.bool (areL g.G R)) ∧ Below w.heap.size w w' := by
  obtain ⟨W, hW, p0, p1, hz, hb, hr1⟩ := box_game w g 25 hr
  have R1 := Lib.hid (hq.up hb)
  have B0 := Lib.hid hb
  have HB := Lib.hid (fun k d h hb => areL_bad (G := g.G) (R := R) (k := k) (d := d) h hb)
  have HE := Lib.hid (fun h => areL_end (G := g.G) (R := R) h)
  have e : g.G.own = g.own := rfl
  rw [e] at HE
  generalize areL g.G R = B at *
  obtain ⟨A0, c0, own, A1, c1, rs⟩ := g
  unfold Gv.v
  simp only at *
  clear hr hf hb hr1 hq e
  go_enter Try.func25, Try.ntmps25
  go_wp2_with fail
  clear hW
  go_loopw [9] (fun i wr => ∃ k : Nat, k ≤ R.length ∧ i = .int .i64 k ∧ (∀ (j : Nat) d, j < k → R[j]? = some d → areB d = true) ∧ wr = W) (fun i _ => R.length - (intOf i).toNat)
  case atStart => exact ⟨0, by omega, rfl, fun j d hj => by omega, rfl⟩
  case round =>
    obtain ⟨k, hk, rfl, hall, rfl⟩ := hrel
    have HA := Lib.hid hall
    clear hall
    by_cases hlt : k < R.length
    · obtain ⟨b, o, d, rfl, hd, hc⟩ := R1.out.int k hlt
      by_cases h1 : d < -1
      · have e1 : decide (d < -1) = true := by simpa using h1
        have HQ := Lib.hid (HB.out k d hd.out (by unfold areB; rw [decide_eq_false (show ¬ -1 ≤ d by omega)]; rfl))
        clear h1
        go_wp2_with fail
        go_ret
        exact ⟨by rw [HQ.out]; rfl, B0.out⟩
      · have e1 : decide (d < -1) = false := by simpa using h1
        by_cases h2 : 16 < d
        · have e2 : decide (16 < d) = true := by simpa using h2
          have HQ := Lib.hid (HB.out k d hd.out (by unfold areB; rw [decide_eq_false (show ¬ d ≤ 16 by omega), Bool.and_false]))
          clear h1 h2
          go_wp2_with fail
          go_ret
          exact ⟨by rw [HQ.out]; rfl, B0.out⟩
        · have e2 : decide (16 < d) = false := by simpa using h2
          have HQ := Lib.hid (each_next (p := areB) hd.out (by unfold areB; rw [decide_eq_true (show -1 ≤ d by omega), decide_eq_true (show d ≤ 16 by omega)]; rfl) HA.out)
          clear h1 h2
          go_wp2_with fail
          go_roundw
          case rel => exact ⟨k + 1, by omega, by go_num, HQ.out, by first | rfl | trivial⟩
          case measure => simp [intOf]; omega
    · have hks : k = R.length := by omega
      subst hks
      have HQ := Lib.hid (HE.out HA.out)
      by_cases h3 : R.length = own.length
      · have e3 : ((R.length : Int) == (own.length : Int)) = true := by rw [beq_iff_eq]; omega
        have e4 : (R.length == own.length) = true := by rw [beq_iff_eq]; omega
        have e5 : decide (R.length = own.length) = true := decide_eq_true h3
        rw [e5] at HQ
        clear h3 e5
        go_wp2_with fail
        go_ret
        exact ⟨by rw [HQ.out]; rfl, B0.out⟩
      · have e3 : ((R.length : Int) == (own.length : Int)) = false := by rw [beq_eq_false_iff_ne]; omega
        have e4 : (R.length == own.length) = false := by rw [beq_eq_false_iff_ne]; omega
        have e5 : decide (R.length = own.length) = false := decide_eq_false h3
        rw [e5] at HQ
        clear h3 e5
        go_wp2_with fail
        go_ret
        exact ⟨by rw [HQ.out]; rfl, B0.out⟩
theorem cr_end {G : Gm} {L R : List Int} (h : askE G L = 0) (ha : areL G R = true) (hc : ∀ p, p < G.own.length → crB G (gatN L) R p = true) : crE G L R = 0 := by
  unfold crE
  rw [if_pos h, if_pos ha, if_pos]
  exact List.all_eq_true.2 fun p hp => hc p (List.mem_range.1 hp)
theorem cr_fail {G : Gm} {L R : List Int} (h : askE G L = 0) (ha : areL G R = true) {p : Nat} (hp : p < G.own.length) (hc : crB G (gatN L) R p = false) : crE G L R = 7 := by
  unfold crE
  rw [if_pos h, if_pos ha, if_neg]
  rw [Bool.not_eq_true, List.all_eq_false]
  exact ⟨p, List.mem_range.2 hp, by rw [hc]; decide⟩
theorem cr_arg {G : Gm} {L R : List Int} (h : askE G L = 0) (ha : areL G R = false) : crE G L R = 1 := by
  unfold crE
  rw [if_pos h, if_neg (by rw [ha]; decide)]
theorem cr_bad {G : Gm} {L R : List Int} (h : ¬ askE G L = 0) : crE G L R = askE G L := if_neg h
theorem crB_at {G : Gm} {goal : Nat} {R : List Int} {p : Nat} {d : Int} (h : R[p]? = some d) : crB G goal R p = (if d = 0 then goal.testBit p else if 0 < d then fcB G 0 (numN R (d - 1)) p else true) := by
  have e : R.getD p (-1) = d := by rw [List.getD_eq_getElem?_getD, h]; rfl
  unfold crB
  rw [e]
theorem before_next {f : Nat → Bool} {k : Nat} (ha : ∀ j, j < k → f j = true) (h : f k = true) : ∀ j, j < k + 1 → f j = true := fun j hj => by
  rcases Nat.lt_or_ge j k with h1 | h1
  · exact ha j h1
  · obtain rfl : j = k := by omega
    exact h
theorem num_lt {R : List Int} (h : R.length ≤ 16) (m : Int) : numN R m < 4294967296 := by
  have h1 : numN R m < 2 ^ R.length := bitK_lt _ _
  have h2 : 2 ^ R.length ≤ 2 ^ 16 := Nat.pow_le_pow_right (by omega) h
  omega
set_option maxRecDepth 4000 in
set_option maxHeartbeats 3200000 in
theorem CheckRanks_any (g : Gv) (A : Option Addr) (c : Nat) (L : List Int) (A2 : Option Addr) (c2 : Nat) (R : List Int) (w : World) (hr : RdG w w.heap.size g) (hf : Gfit g) (hq : Rd w w.heap.size A (ints L)) (hn : L.length ≤ 9223372036854775807) (hq2 : Rd w w.heap.size A2 (ints R)) (hn2 : R.length ≤ 9223372036854775807) :
    Calls Try.prog 9 #[g.v, .slice A L.length c, .slice A2 R.length c2] w fun e w' => e = .returned (.int .i64 (crE g.G L R)) ∧ Below w.heap.size w w' := by
  obtain ⟨W, hW, p0, p1, hz, hb, hr1⟩ := box_game w g 25 hr
  have R1 := Lib.hid (hq.up hb)
  have S1 := Lib.hid (hq2.up hb)
  have RG := Lib.hid hr1
  have B0 := Lib.hid hb
  obtain ⟨W2, hW2, hb2, HC⟩ := ask_one g A c L W hr1 hf R1.out hn
  have B2 := Lib.hid (hb.trans (hb2.mono hb.size))
  have HCh := Lib.hid HC
  have RG2 := Lib.hid (hr1.up hb2)
  have R2 := Lib.hid (R1.out.up hb2)
  have S2 := Lib.hid (S1.out.up hb2)
  have q0 := cell_keep p0 hb2 hz
  have q1 := cell_keep p1 hb2 hz
  have hz2 : w.heap.size < W2.heap.size := Nat.lt_of_lt_of_le hz hb2.size
  by_cases hE : askE g.G L = 0
  · obtain ⟨hG0, hs⟩ := askE_zero hE
    have h16 : g.own.length ≤ 16 := (gE_zero hG0).le
    rw [hE] at HCh
    have HAr := Lib.hid (fun w h q => areRanks_any g A2 c2 R w h hf q hn2)
    cases ha : areL g.G R
    · have HE := Lib.hid (cr_arg (R := R) hE ha)
      rw [ha] at HAr
      clear hr hf hq hn hq2 hn2 hb hr1 hb2 HC hE hG0 hs ha h16
      unfold Gv.v at HCh HAr ⊢
      generalize g.G = G at *
      obtain ⟨A0, c0, own, A1, c1, rs⟩ := g
      simp only at hW p0 p1 q0 q1 HCh HAr ⊢
      go_enter Try.func9, Try.ntmps9
      go_wp2_with fail
      refine (HCh.out).mono ?_
      rintro e w3 ⟨rfl, hb⟩
      have B3 := Lib.hid (B2.out.trans (hb.mono B2.out.size))
      have RG3 := Lib.hid (RG2.out.up hb)
      have S3 := Lib.hid (S2.out.up hb)
      have r0 := cell_keep q0 hb hz2
      have r1 := cell_keep q1 hb hz2
      clear hb q0 q1 p0 p1 hW hW2
      go_wp2_with fail
      refine (HAr.out w3 RG3.out S3.out).mono ?_
      rintro e w4 ⟨rfl, hb⟩
      have B4 := Lib.hid (B3.out.trans (hb.mono B3.out.size))
      clear hb
      go_wp2_with fail
      go_ret
      exact ⟨by rw [HE.out]; rfl, B4.out⟩
    · have hRl : R.length = g.own.length := (areL_iff.1 ha).2
      have HRng := Lib.hid (areL_iff.1 ha).1
      have HEnd := Lib.hid (fun h => cr_end (R := R) hE ha h)
      have HFl := Lib.hid (fun p hp h => cr_fail (R := R) hE ha (p := p) hp h)
      have HAt := Lib.hid (fun p d h => crB_at (G := g.G) (goal := gatN L) (R := R) (p := p) (d := d) h)
      have HG := Lib.hid (fun w h => gather_any A c L g.own.length w h hn hs (by omega))
      have HNm := Lib.hid (fun m w h => numbered_any A2 c2 R m w h (by omega))
      have HFo := Lib.hid (fun m w h => forced_any g 0 (numN R m) w h hf hG0 (num_lt (by omega) m))
      have HFl32 := Lib.hid (fun m => (Nat.lt_of_lt_of_le (fcN_lt g.G 0 (numN R m)) (show 2 ^ g.own.length ≤ 4294967296 from Nat.le_trans (Nat.pow_le_pow_right (by omega) h16) (show 2 ^ 16 ≤ 4294967296 by decide))))
      have HFa := Lib.hid (fun m p (hp : p < g.own.length) => fcN_at (G := g.G) (b := 0) (S := numN R m) hp)
      have e : g.G.own = g.own := rfl
      rw [e] at HEnd HFl
      rw [ha] at HAr
      have hRl16 : R.length ≤ 16 := by omega
      have HRl := Lib.hid hRl
      clear hr hf hq hn hq2 hn2 hb hr1 hb2 HC hE hG0 hs ha h16 e hRl
      have hgl : gatN L < 4294967296 := bit32 _
      unfold Gv.v at HCh HAr HFo ⊢
      generalize g.G = G at *
      obtain ⟨A0, c0, own, A1, c1, rs⟩ := g
      simp only at hW p0 p1 q0 q1 HCh HAr HFo HEnd HFl HFa HG HRl ⊢
      go_enter Try.func9, Try.ntmps9
      go_wp2_with fail
      refine (HCh.out).mono ?_
      rintro e w3 ⟨rfl, hb⟩
      have B3 := Lib.hid (B2.out.trans (hb.mono B2.out.size))
      have RG3 := Lib.hid (RG2.out.up hb)
      have R3 := Lib.hid (R2.out.up hb)
      have S3 := Lib.hid (S2.out.up hb)
      have r0 := cell_keep q0 hb hz2
      have r1 := cell_keep q1 hb hz2
      have hz3 : w.heap.size < w3.heap.size := Nat.lt_of_lt_of_le hz2 hb.size
      clear hb q0 q1 p0 p1 hW hW2
      go_wp2_with fail
      refine (HAr.out w3 RG3.out S3.out).mono ?_
      rintro e w4 ⟨rfl, hb⟩
      have B4 := Lib.hid (B3.out.trans (hb.mono B3.out.size))
      have RG4 := Lib.hid (RG3.out.up hb)
      have R4 := Lib.hid (R3.out.up hb)
      have S4 := Lib.hid (S3.out.up hb)
      have s0 := cell_keep r0 hb hz3
      have s1 := cell_keep r1 hb hz3
      have hz4 : w.heap.size < w4.heap.size := Nat.lt_of_lt_of_le hz3 hb.size
      clear hb r0 r1
      go_wp2_with fail
      refine (HG.out w4 R4.out).mono ?_
      rintro e w' ⟨rfl, rfl⟩
      go_wp2_with fail
      go_loopw [26] (fun i wr => ∃ k : Nat, k ≤ R.length ∧ i = .int .i64 k ∧ (∀ j, j < k → crB G (gatN L) R j = true) ∧ Below w4.heap.size w4 wr) (fun i _ => R.length - (intOf i).toNat)
      case atStart => exact ⟨0, by omega, rfl, fun j hj => by omega, Below.refl _ _⟩
      case round =>
        obtain ⟨k, hk, rfl, hall, hb⟩ := hrel
        have HA := Lib.hid hall
        have BW := Lib.hid hb
        have S5 := Lib.hid (S4.out.up hb)
        have t0 := cell_keep s0 hb hz4
        have t1 := cell_keep s1 hb hz4
        have RG5 := Lib.hid (RG4.out.up hb)
        clear hall hb
        by_cases hlt : k < R.length
        · obtain ⟨b, o, d, rfl, hd, hc⟩ := S5.out.int k hlt
          have hcr := HAt.out k d hd.out
          have HFlk := Lib.hid (HFl.out k (by have := HRl.out; omega))
          have hk32 : k < 32 := by omega
          by_cases h0 : d = 0
          · subst h0
            rw [if_pos rfl] at hcr
            have HH := Lib.hid (fun w => has_any (gatN L) k w hgl hk32)
            cases hq : (gatN L).testBit k
            · have HE := Lib.hid (HFlk.out (by rw [hcr, hq]))
              rw [hq] at HH
              clear hcr hq
              generalize gatN L = T at *
              go_wp2_with fail
              refine (HH.out wr).mono ?_
              rintro e w' ⟨rfl, rfl⟩
              go_wp2_with fail
              go_ret
              exact ⟨by rw [HE.out]; rfl, B4.out.trans (BW.out.mono B4.out.size)⟩
            · have HN := Lib.hid (before_next HA.out (by rw [hcr, hq]))
              rw [hq] at HH
              clear hcr hq
              go_wp2_with fail
              refine (HH.out wr).mono ?_
              rintro e w' ⟨rfl, rfl⟩
              have g0 := fun d os => cell_regrown t0 d os
              have g1 := fun d os => cell_regrown t1 d os
              go_wp2_with fail
              refine wp_region_quiet_below (by kernel_rfl) (by kernel_rfl) ?_
              repeat (go_big_quiet_step (fail))
              refine wpQuiet_nil ?_
              intro _ hw'
              obtain ⟨⟨dq, osq⟩, hw''⟩ := hw'
              subst hw''
              have B6 := Lib.hid (BW.out.trans ((below_regrown wr dq osq).mono BW.out.size))
              go_wp2_with fail
              go_roundw
              case rel => exact ⟨k + 1, by omega, by go_num, HN.out, B6.out⟩
              case measure => simp [intOf]; omega
          · have e0 : (d == 0) = false := by simpa using h0
            rw [if_neg h0] at hcr
            by_cases h1 : 0 < d
            · rw [if_pos h1] at hcr
              have e1 : decide (0 < d) = true := by simpa using h1
              have ew : IntKind.i64.wrap (d - 1) = d - 1 := by have := HRng.out d (List.mem_of_getElem? hd.out); rw [IntKind.wrap_i64]; omega
              have HNk := Lib.hid (fun w h => HNm.out (d - 1) w h)
              have HFk := Lib.hid (fun w h => HFo.out (d - 1) w h)
              have HHk := Lib.hid (fun w => has_any (fcN G 0 (numN R (d - 1))) k w (HFl32.out _) hk32)
              have hfa := HFa.out (d - 1) k (by have := HRl.out; omega)
              rw [← hfa] at hcr
              clear hfa
              obtain ⟨X, hX⟩ : ∃ X, fcN G 0 (numN R (d - 1)) = X := ⟨_, rfl⟩
              rw [hX] at HFk HHk hcr
              obtain ⟨Z, hZ⟩ : ∃ Z, numN R (d - 1) = Z := ⟨_, rfl⟩
              rw [hZ] at HNk HFk
              clear hX hZ
              have g0 := fun d os => cell_regrown t0 d os
              have g1 := fun d os => cell_regrown t1 d os
              have hb1 := h1
              clear h1 h0
              cases hq : X.testBit k
              · have HE := Lib.hid (HFlk.out (by rw [hcr, hq]))
                rw [hq] at HHk
                clear hcr hq
                go_wp2_with fail
                refine wp_region_quiet_below (by kernel_rfl) (by kernel_rfl) ?_
                repeat (go_big_quiet_step (first | (with_reducible exact Calls.regrown_of (sb (HNk.out _ (S5.out.up (below_regrown _ _ _))))) | (with_reducible exact Calls.regrown_of (HFk.out _ (RG5.out.up (below_regrown _ _ _)))) | (with_reducible exact Calls.regrown_of (sb (HHk.out _)))))
                refine wpQuiet_nil ?_
                intro _ hw'
                obtain ⟨⟨dq, osq⟩, hw''⟩ := hw'
                subst hw''
                have B6 := Lib.hid (BW.out.trans ((below_regrown wr dq osq).mono BW.out.size))
                go_wp2_with fail
                go_ret
                exact ⟨by rw [HE.out]; rfl, B4.out.trans (B6.out.mono B4.out.size)⟩
              · have HN := Lib.hid (before_next HA.out (by rw [hcr, hq]))
                rw [hq] at HHk
                clear hcr hq
                go_wp2_with fail
                refine wp_region_quiet_below (by kernel_rfl) (by kernel_rfl) ?_
                repeat (go_big_quiet_step (first | (with_reducible exact Calls.regrown_of (sb (HNk.out _ (S5.out.up (below_regrown _ _ _))))) | (with_reducible exact Calls.regrown_of (HFk.out _ (RG5.out.up (below_regrown _ _ _)))) | (with_reducible exact Calls.regrown_of (sb (HHk.out _)))))
                refine wpQuiet_nil ?_
                intro _ hw'
                obtain ⟨⟨dq, osq⟩, hw''⟩ := hw'
                subst hw''
                have B6 := Lib.hid (BW.out.trans ((below_regrown wr dq osq).mono BW.out.size))
                go_wp2_with fail
                go_roundw
                case rel => exact ⟨k + 1, by omega, by go_num, HN.out, B6.out⟩
                case measure => simp [intOf]; omega
            · rw [if_neg h1] at hcr
              have e1 : decide (0 < d) = false := by simpa using h1
              have HN := Lib.hid (before_next HA.out hcr)
              have g0 := fun d os => cell_regrown t0 d os
              have g1 := fun d os => cell_regrown t1 d os
              clear hcr h1 h0
              go_wp2_with fail
              refine wp_region_quiet_below (by kernel_rfl) (by kernel_rfl) ?_
              repeat (go_big_quiet_step (fail))
              refine wpQuiet_nil ?_
              intro _ hw'
              obtain ⟨⟨dq, osq⟩, hw''⟩ := hw'
              subst hw''
              have B6 := Lib.hid (BW.out.trans ((below_regrown wr dq osq).mono BW.out.size))
              go_wp2_with fail
              go_roundw
              case rel => exact ⟨k + 1, by omega, by go_num, HN.out, B6.out⟩
              case measure => simp [intOf]; omega
        · have hks : k = R.length := by omega
          have HE := Lib.hid (HEnd.out (by rw [← HRl.out, ← hks]; exact HA.out))
          have HKs := Lib.hid hks
          clear hks
          have e3 : decide ((k : Int) < (R.length : Int)) = false := by rw [decide_eq_false_iff_not]; omega
          have e4 : decide (k < R.length) = false := by rw [decide_eq_false_iff_not]; exact hlt
          go_wp2_with fail
          go_ret
          exact ⟨by rw [HE.out]; rfl, B4.out.trans (BW.out.mono B4.out.size)⟩
  · have HE := Lib.hid (cr_bad (R := R) hE)
    generalize askE g.G L = E at *
    have hb1 : (E == 0) = false := by simpa using hE
    have hb2' : (E != 0) = true := by simpa using hE
    clear hr hf hq hn hq2 hn2 hb hr1 hb2 HC hE
    unfold Gv.v at HCh ⊢
    generalize g.G = G at *
    obtain ⟨A0, c0, own, A1, c1, rs⟩ := g
    simp only at hW p0 p1 q0 q1 HCh ⊢
    go_enter Try.func9, Try.ntmps9
    go_wp2_with fail
    refine (HCh.out).mono ?_
    rintro e w3 ⟨rfl, hb⟩
    have B3 := Lib.hid (B2.out.trans (hb.mono B2.out.size))
    clear hb
    go_wp2_with fail
    go_ret
    exact ⟨by rw [HE.out]; rfl, B3.out⟩
end Go.Proofs.Ytibcjkpfpiamkab
namespace Go.Proofs.Ytibcjkpfpiamkab
open Go.RowKit
set_option linter.unusedVariables false

/-- How many of the first k moves lead to smaller numbers. -/
def smC (R : List Int) (m : Int) (row : List Int) (k : Nat) : Nat := ((row.take k).filter fun d => inR m (R.getD d.toNat (-1))).length
theorem smC_next {R : List Int} {m : Int} {row : List Int} {k : Nat} {d : Int} (h : row[k]? = some d) : smC R m row (k + 1) = smC R m row k + if inR m (R.getD d.toNat (-1)) then 1 else 0 := by
  unfold smC
  rw [List.take_add_one, h, List.filter_append, List.length_append]
  have e : (some d).toList = [d] := rfl
  rw [e, List.filter_cons, List.filter_nil]
  split <;> rfl
theorem smC_le (R : List Int) (m : Int) (row : List Int) (k : Nat) : smC R m row k ≤ k := by
  unfold smC
  have h1 := List.length_filter_le (fun d : Int => inR m (R.getD d.toNat (-1))) (row.take k)
  have h2 : (row.take k).length ≤ k := by simp; omega
  omega
theorem smC_hit (R : List Int) (m : Int) (row : List Int) : (smC R m row row.length == 0) = !hit (numN R m) row := by
  unfold smC hit
  rw [List.take_length]
  have e : (row.any fun d => (numN R m).testBit d.toNat) = row.any fun d => inR m (R.getD d.toNat (-1)) := by
    congr 1
    funext d
    rw [Bool.eq_iff_iff, num_at, inR_iff]
  rw [e, Bool.eq_iff_iff, beq_iff_eq, Bool.not_eq_true', List.any_eq_false, List.length_eq_zero_iff, List.filter_eq_nil_iff]
theorem smC_inn (R : List Int) (m : Int) (row : List Int) : decide (smC R m row row.length < row.length) = !inn (numN R m) row := by
  unfold smC inn
  rw [List.take_length]
  have e : (row.all fun d => (numN R m).testBit d.toNat) = row.all fun d => inR m (R.getD d.toNat (-1)) := by
    congr 1
    funext d
    rw [Bool.eq_iff_iff, num_at, inR_iff]
  rw [e, Bool.eq_iff_iff, decide_eq_true_eq, Bool.not_eq_true', List.all_eq_false]
  constructor
  · intro h
    apply Classical.byContradiction
    intro hno
    have : row.filter (fun d => inR m (R.getD d.toNat (-1))) = row := List.filter_eq_self.2 fun d hd => by
      cases hb : inR m (R.getD d.toNat (-1))
      · exact absurd ⟨d, hd, by rw [hb]; decide⟩ hno
      · rfl
    rw [this] at h
    omega
  · rintro ⟨d, hd, hb⟩
    rcases Nat.lt_or_ge (row.filter fun d => inR m (R.getD d.toNat (-1))).length row.length with h | h
    · exact h
    · exfalso
      have h1 := List.length_filter_le (fun d : Int => inR m (R.getD d.toNat (-1))) row
      have : row.filter (fun d => inR m (R.getD d.toNat (-1))) = row := List.filter_sublist.eq_of_length (by omega)
      rw [List.filter_eq_self] at this
      exact hb (this d hd)
theorem shr_bit0 (n i : Nat) (hn : n < 9223372036854775808) : (bits .and .i64 ((n : Int) / 2 ^ i) 1 == 0) = !n.testBit i := by
  have h := bit_div (n := n) (j := i)
  have e : (n : Int) / 2 ^ i = ((n / 2 ^ i : Nat) : Int) := by simp
  have hd : n / 2 ^ i ≤ n := Nat.div_le_self _ _
  rw [e, show (1 : Int) = ((1 : Nat) : Int) from rfl, i64_and_nat _ _ (by omega) (by decide), Nat.and_one_is_mod, h]
  cases n.testBit i <;> rfl
theorem areB_in (d : Int) : areB d = inW (-1) 16 d := rfl
end Go.Proofs.Ytibcjkpfpiamkab

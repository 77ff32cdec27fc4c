/-
  The walks of known and Large of the laws of package lure. No condition (Large: the game can be read).
-/
import Derived.Test.YtldepjpalhmpnaaLu14
namespace Go.Proofs.Ytldepjpalhmpnaa
open Go.RowKit
set_option linter.unusedVariables false

set_option maxRecDepth 4000 in
set_option maxHeartbeats 1600000 in
theorem known_ok (w : World) : Calls Try.prog 5 #[] w fun e w' => e = .returned (.bool true) ∧ Below w.heap.size w w' := by
  obtain ⟨W, hW, hk, hr3, hb, hs⟩ := kworld w
  have K := Lib.hid hk
  have R3 := Lib.hid hr3
  have B1 := Lib.hid hb
  unfold allocs kObjs at hW
  simp only [List.foldl_cons, List.foldl_nil] at hW
  have HR := Lib.hid (Ranks_any (kg1 w.heap.size) (some ⟨w.heap.size + 7, 0, none⟩) 1 [3] W hk.game (kfit1 _) hr3 (by decide))
  rw [kn1, ke1] at HR
  unfold Gv.v kg1 at HR
  simp only at HR
  clear hk hr3 hb
  go_enter Try.func5, Try.ntmps5
  go_wp2_with fail
  refine HR.out.mono ?_
  rintro e w2 ⟨A2, c2, rfl, hc2, hf2, hr2, hb2⟩
  have K2 := Lib.hid (K.out.up hb2)
  have L2 := Lib.hid hr2
  have B2 := Lib.hid (B1.out.trans (hb2.mono B1.out.size))
  have hs2 : w.heap.size + 8 ≤ w2.heap.size := by have := hb2.size; omega
  obtain ⟨W21, W22, W3, hkw⟩ := kworld2 K2.out hs2
  have hk3 := hkw.k
  have hg3 := hkw.g
  have hq3 := hkw.r
  have hb3 := hkw.b
  have hs3 := hkw.s
  have hW21 := hkw.e1
  have hW22 := hkw.e2
  have hW3 := hkw.e3
  have g1 := hkw.c1
  have g2 := hkw.f1
  have g3 := hkw.d0
  have g4 := hkw.d1
  have g5 := hkw.s2
  have L3 := Lib.hid (show Rd W3 W3.heap.size A2 (ints [2, 3, 1, 0]) by
    rcases hr2 with h0 | ⟨b, o, ha, hlt, hc⟩
    · exact absurd h0 (by simp [ints])
    · have hfb := hf2 _ ha
      simp only at hfb
      exact .inr ⟨b, o, ha, by omega, fun i u hi => (cell_heap (hk3 b hlt (by omega))).trans (hc i u hi)⟩)
  have B3 := Lib.hid (B2.out.trans hb3)
  have HF := Lib.hid (Free_any (kg2 w.heap.size w2.heap.size) (some ⟨w2.heap.size + 1, 0, none⟩) 1 [3] W3 hg3 (kfit2 _ _) hq3 (by decide))
  rw [kn2, ke2] at HF
  unfold Gv.v kg2 at HF
  simp only at HF
  have c0 : w2.cell? ⟨w.heap.size + 6, 0, none⟩ = some (.slice (some ⟨w.heap.size, 0, none⟩) 4 4) := by rw [blk_cell K2.out.b6]; rfl
  have c1 : w2.cell? ⟨w.heap.size + 6, 1, none⟩ = some (.slice (some ⟨w.heap.size + 5, 0, none⟩) 4 4) := by rw [blk_cell K2.out.b6]; rfl
  have R1 := Lib.hid hr2
  clear hr2 hf2 hb2 hg3 hq3 hb3 hk3 hs2 hW hs hkw
  go_wp2_with fail
  refine HF.out.mono ?_
  rintro e w4 ⟨A4, c4, rfl, hc4, hf4, hr4, hb4⟩
  have B4 := Lib.hid (B3.out.trans (hb4.mono B3.out.size))
  have M1 := Lib.hid (L3.out.up hb4)
  have M2 := Lib.hid hr4
  clear hr4 hf4 hb4 hW3 hW21 hW22 g1 g2 g3 g4 c0 c1 hs3
  have lit1 := Lib.hid (Rd.lit w4 (ints [2, 3, 1, 0]) 3)
  have N1 := Lib.hid (M1.out.alloc_up (.cells (ints [2, 3, 1, 0]).toArray 3))
  have N2 := Lib.hid (M2.out.alloc_up (.cells (ints [2, 3, 1, 0]).toArray 3))
  have BA := Lib.hid (B4.out.alloc B4.out.size (.cells (ints [2, 3, 1, 0]).toArray 3))
  go_wp2_with fail
  refine (SameInts_same A2 _ c2 _ [2, 3, 1, 0] 4 4 _ rfl rfl N1.out lit1.out (by decide)).mono ?_
  rintro e w5 ⟨rfl, m5, rfl⟩
  have BB := Lib.hid (bdN BA.out m5)
  have P2 := Lib.hid (show Rd ((w4.alloc (.cells (ints [2, 3, 1, 0]).toArray 3)).drewN m5) ((w4.alloc (.cells (ints [2, 3, 1, 0]).toArray 3)).drewN m5).heap.size A4 (ints [0, 1]) from N2.out)
  generalize hw5 : ((w4.alloc (.cells (ints [2, 3, 1, 0]).toArray 3)).drewN m5) = w5 at BB P2
  have lit2 := Lib.hid (Rd.lit w5 (ints [0, 1]) 3)
  have Q2 := Lib.hid (P2.out.alloc_up (.cells (ints [0, 1]).toArray 3))
  have BC := Lib.hid (BB.out.alloc BB.out.size (.cells (ints [0, 1]).toArray 3))
  go_wp2_with fail
  refine (SameInts_same A4 _ c4 _ [0, 1] 2 2 _ rfl rfl Q2.out lit2.out (by decide)).mono ?_
  rintro e w6 ⟨rfl, m6, rfl⟩
  go_wp2_with fail
  go_ret
  exact ⟨rfl, bdN BC.out m6⟩
def largeB (g : Gv) : Bool := decide (100 < g.own.length) || (decide (100 < g.rs.length) || g.rs.any fun r => decide (100 < r.l.length))
theorem large_yes {g : Gv} {k : Nat} {r : Rw} (h : g.rs[k]? = some r) (hl : 100 < r.l.length) : largeB g = true := by
  unfold largeB
  rw [show (g.rs.any fun r => decide (100 < r.l.length)) = true from List.any_eq_true.2 ⟨r, List.mem_of_getElem? h, decide_eq_true hl⟩]
  simp
theorem large_no {g : Gv} (h0 : ¬ 100 < g.own.length) (h1 : ¬ 100 < g.rs.length) (h : ∀ (k : Nat) r, k < g.rs.length → g.rs[k]? = some r → ¬ 100 < r.l.length) : largeB g = false := by
  unfold largeB
  rw [decide_eq_false h0, decide_eq_false h1, Bool.false_or, Bool.false_or, List.any_eq_false]
  intro r hr
  obtain ⟨k, hk, he⟩ := List.getElem_of_mem hr
  have := h k r hk (by rw [← he]; exact List.getElem?_eq_getElem hk)
  simpa using this
/-- What a game that is not long gives. -/
theorem large_fit {g : Gv} (h : largeB g = false) : g.own.length ≤ 100 ∧ g.rs.length ≤ 100 ∧ ∀ r ∈ g.rs, r.l.length ≤ 100 := by
  unfold largeB at h
  simp only [Bool.or_eq_false_iff, decide_eq_false_iff_not, List.any_eq_false, decide_eq_true_eq] at h
  exact ⟨by omega, by omega, fun r hr => by have := h.2.2 r hr; omega⟩
set_option maxRecDepth 4000 in
set_option maxHeartbeats 800000 in
theorem Large_any (g : Gv) (w : World) (hr : RdG w w.heap.size g) (hf : Gfit g) :
    Calls Try.prog 4 #[g.v] w fun e w' => e = .returned (.bool (largeB g)) ∧ Below w.heap.size w w' := by
  obtain ⟨W, hW, p0, p1, hz, hb, hr1⟩ := box_game w g 25 hr
  have HY := Lib.hid (fun k r h hl => large_yes (g := g) (k := k) (r := r) h hl)
  have HN := Lib.hid (fun h0 h1 h => large_no (g := g) h0 h1 h)
  have H1 := Lib.hid (show 100 < g.own.length → largeB g = true from fun h => by unfold largeB; rw [decide_eq_true h]; rfl)
  have H2 := Lib.hid (show 100 < g.rs.length → largeB g = true from fun h => by unfold largeB; rw [decide_eq_true h]; simp)
  have R1 := Lib.hid hr1.r
  have B0 := Lib.hid hb
  have HF := Lib.hid hf.rs
  have hn0 : g.own.length ≤ 9223372036854775807 := by have := hf.n0; have := hf.m0; unfold maxLen at this; omega
  have hn1 : g.rs.length ≤ 9223372036854775807 := by have := hf.n1; have := hf.m1; unfold maxLen at this; omega
  generalize largeB g = B at *
  obtain ⟨A0, c0, own, A1, c1, rs⟩ := g
  unfold Gv.v
  simp only at *
  clear hr hf hb hr1
  by_cases h0 : 100 < own.length
  · have e0 : decide ((100 : Int) < (own.length : Int)) = true := by rw [decide_eq_true_eq]; omega
    have HE := Lib.hid (H1.out h0)
    clear h0
    go_enter Try.func4, Try.ntmps4
    go_wp2_with fail
    go_ret
    exact ⟨by rw [HE.out]; rfl, B0.out⟩
  · have e0 : decide ((100 : Int) < (own.length : Int)) = false := by rw [decide_eq_false_iff_not]; omega
    by_cases h1 : 100 < rs.length
    · have e1 : decide ((100 : Int) < (rs.length : Int)) = true := by rw [decide_eq_true_eq]; omega
      have HE := Lib.hid (H2.out h1)
      clear h0 h1
      go_enter Try.func4, Try.ntmps4
      go_wp2_with fail
      go_ret
      exact ⟨by rw [HE.out]; rfl, B0.out⟩
    · have e1 : decide ((100 : Int) < (rs.length : Int)) = false := by rw [decide_eq_false_iff_not]; omega
      have HE := Lib.hid (HN.out h0 h1)
      clear h0 h1
      go_enter Try.func4, Try.ntmps4
      go_wp2_with fail
      clear hW
      go_loopw [3] (fun i wr => ∃ k : Nat, k ≤ rs.length ∧ i = .int .i64 k ∧ (∀ (j : Nat) r, j < k → rs[j]? = some r → ¬ 100 < r.l.length) ∧ wr = W) (fun i _ => rs.length - (intOf i).toNat)
      case atStart => exact ⟨0, by omega, rfl, fun j r hj => by omega, rfl⟩
      case round =>
        obtain ⟨k, hk, rfl, hall, rfl⟩ := hrel
        have HA := Lib.hid hall
        clear hall
        by_cases hlt : k < rs.length
        · obtain ⟨b2, o', A', c', l, rfl, hx, hc', hl⟩ := R1.out.row k hlt
          have hll := HF.out _ (List.mem_of_getElem? hx.out)
          unfold maxLen at hll
          simp only at hll
          by_cases h3 : 100 < l.length
          · have e3 : decide ((100 : Int) < (l.length : Int)) = true := by rw [decide_eq_true_eq]; omega
            have HQ := Lib.hid (HY.out k _ hx.out h3)
            clear h3 hll
            go_wp2_with fail
            go_ret
            exact ⟨by rw [HQ.out]; rfl, B0.out⟩
          · have e3 : decide ((100 : Int) < (l.length : Int)) = false := by rw [decide_eq_false_iff_not]; omega
            have HQ := Lib.hid (show ∀ (j : Nat) r, j < k + 1 → rs[j]? = some r → ¬ 100 < r.l.length from fun j r hj hr => by
              by_cases hjk : j = k
              · subst hjk
                obtain rfl := Option.some.inj (hx.out.symm.trans hr)
                exact h3
              · exact HA.out j r (by omega) hr)
            clear h3 hll
            go_wp2_with fail
            go_roundw
            case rel => exact ⟨k + 1, by omega, by go_num, HQ.out, by first | rfl | trivial⟩
            case measure => simp [intOf]; omega
        · have hks : k = rs.length := by omega
          subst hks
          have HQ := Lib.hid (HE.out HA.out)
          go_wp2_with fail
          go_ret
          exact ⟨by rw [HQ.out]; rfl, B0.out⟩
end Go.Proofs.Ytldepjpalhmpnaa

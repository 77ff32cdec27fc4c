/-
  Sums of fractions: the walks of multiple and plus. Condition: numbers far from the ends of int64.
-/
import Derived.Test.YtegehfcnclpdeaaFwg
import Derived.Deep.RegionHeld3
namespace Go.Proofs.Ytegehfcnclpdeaa
open Go.RowKit
set_option linter.unusedVariables false

theorem cell_off {W : World} {g i b j : Nat} {v u : Value} (h : W.cell? ⟨b, j, none⟩ = some u) (hne : b ≠ g) : (W.setCell ⟨g, i, none⟩ v).cell? ⟨b, j, none⟩ = some u := by
  rw [← h]
  simp [World.cell?, World.setCell, Array.getElem?_modify, Ne.symm hne]
/-- The least common multiple, as the program has it. -/
def lcmZ (a b : Int) : Int := Int.tdiv a (gcdZ a b : Nat) * b
set_option maxRecDepth 4000 in
set_option maxHeartbeats 1000000 in
theorem multiple_any (a b : Int) (ha : Mid a) (hb : Mid b) (hb0 : b ≠ 0) (hm : Mid (lcmZ a b)) (w : World) :
    Calls Try.prog 82 #[.int .i64 a, .int .i64 b] w fun e w' => e = .returned (.int .i64 (lcmZ a b)) ∧ ∃ m, w' = w.drewN m := by
  have HD := Lib.hid (divisor_any a b ha hb w)
  have HF := Lib.hid (show lcmZ a b = Int.tdiv a (gcdZ a b : Nat) * b from rfl)
  rw [HF.out] at hm ⊢
  have hp : 0 < gcdZ a b := Nat.gcd_pos_of_pos_right _ (by omega)
  generalize gcdZ a b = g at *
  have e1 : ((g : Int) == 0) = false := by simp; omega
  have e1' : (g == 0) = false := by simp; omega
  have hne : (g : Int) ≠ 0 := by omega
  have hne' : g ≠ 0 := by omega
  have q1 : IntKind.i64.wrap (Int.tdiv a (g : Int)) = Int.tdiv a (g : Int) := wrapI_mid (tdiv_mid ha _)
  have q3 : wrap64 (Int.tdiv a (g : Int)) = Int.tdiv a (g : Int) := wrap_mid (tdiv_mid ha _)
  have q2 : IntKind.i64.wrap (Int.tdiv a (g : Int) * b) = Int.tdiv a (g : Int) * b := wrapI_mid hm
  have q4 : wrap64 (Int.tdiv a (g : Int) * b) = Int.tdiv a (g : Int) * b := wrap_mid hm
  clear ha hb hb0 hm HF
  go_enter Try.func82, Try.ntmps82
  go_wp2_with fail
  refine HD.out.mono ?_
  rintro e w1 ⟨rfl, m, hm⟩
  have HM := Lib.hid hm
  clear hm HD
  go_wp2_with fail
  go_ret
  exact ⟨rfl, m, HM.out⟩
theorem three_blk (s : Nat) (a b c : Array Value) (t : TypeId) (w : World) (hs : w.heap.size = s) : ∃ W, ((w.alloc (.cells a t)).alloc (.cells b t)).alloc (.cells c t) = W ∧
    W.heap[s]? = some (.cells a t (0, 0)) ∧ W.heap[s + 1]? = some (.cells b t (0, 0)) ∧ W.heap[s + 1 + 1]? = some (.cells c t (0, 0)) ∧ W.heap.size = s + 1 + 1 + 1 ∧ Below s w W := by
  have z1 : (w.alloc (.cells a t)).heap.size = s + 1 := by simp [hs]
  have z2 : ((w.alloc (.cells a t)).alloc (.cells b t)).heap.size = s + 1 + 1 := by simp [hs]
  have h1 := heap_alloc_new w (.cells a t)
  have h2 := heap_alloc_new (w.alloc (.cells a t)) (.cells b t)
  have h3 := heap_alloc_new ((w.alloc (.cells a t)).alloc (.cells b t)) (.cells c t)
  have b1 : Below s w (w.alloc (.cells a t)) := (Below.refl s w).alloc (by omega) _
  have b2 : Below (s + 1) (w.alloc (.cells a t)) (((w.alloc (.cells a t)).alloc (.cells b t)).alloc (.cells c t)) := ((Below.refl _ _).alloc (by omega) _).alloc (by omega) _
  have b3 : Below (s + 1 + 1) ((w.alloc (.cells a t)).alloc (.cells b t)) (((w.alloc (.cells a t)).alloc (.cells b t)).alloc (.cells c t)) := (Below.refl _ _).alloc (by omega) _
  rw [hs] at h1
  rw [z1] at h2
  rw [z2] at h3
  exact ⟨_, rfl, (b2.block s (by omega)).trans h1, (b3.block (s + 1) (by omega)).trans h2, h3, by simp [hs], b1.trans (b2.mono (by omega))⟩
/-- The numerator of a sum over a common denominator. -/
def pluN (a b : Int × Int) (d : Int) : Int := a.1 * Int.tdiv d a.2 + b.1 * Int.tdiv d b.2
def pluF (a b : Int × Int) : Int × Int := frZ (pluN a b (lcmZ a.2 b.2)) (lcmZ a.2 b.2)
structure Plk (a b : Int × Int) : Prop where
  ha : Mid a.2
  hb : Mid b.2
  ha0 : a.2 ≠ 0
  hb0 : b.2 ≠ 0
  hd0 : lcmZ a.2 b.2 ≠ 0
  hd : Mid (lcmZ a.2 b.2)
  h1 : Mid (a.1 * Int.tdiv (lcmZ a.2 b.2) a.2)
  h2 : Mid (b.1 * Int.tdiv (lcmZ a.2 b.2) b.2)
  hn : Mid (pluN a b (lcmZ a.2 b.2))
set_option maxRecDepth 4000 in
set_option maxHeartbeats 2000000 in
theorem plus_any (a b : Int × Int) (h : Plk a b) (w : World) :
    Calls Try.prog 92 #[ratZ a, ratZ b] w fun e w' => e = .returned (ratZ (pluF a b)) ∧ Below w.heap.size w w' := by
  obtain ⟨s, hs⟩ : ∃ s, w.heap.size = s := ⟨_, rfl⟩
  have HS := Lib.hid hs
  obtain ⟨W, hW, g0, g1, g2, hz, hB⟩ := three_blk s #[.int .i64 a.1, .int .i64 a.2] #[.int .i64 b.1, .int .i64 b.2] #[.int .i64 0, .int .i64 0] 29 w hs
  have HM := Lib.hid (fun w => multiple_any a.2 b.2 h.ha h.hb h.hb0 h.hd w)
  have HF := Lib.hid (fun w => fraction_any (pluN a b (lcmZ a.2 b.2)) (lcmZ a.2 b.2) h.hn h.hd h.hd0 w)
  have HE := Lib.hid (show pluF a b = frZ (pluN a b (lcmZ a.2 b.2)) (lcmZ a.2 b.2) from rfl)
  have HN := Lib.hid (show pluN a b (lcmZ a.2 b.2) = a.1 * Int.tdiv (lcmZ a.2 b.2) a.2 + b.1 * Int.tdiv (lcmZ a.2 b.2) b.2 from rfl)
  obtain ⟨ha, hb, ha0, hb0, hd0, hd, h1, h2, hn⟩ := h
  rw [← HE.out] at HF
  rw [HN.out] at HF hn
  obtain ⟨⟨q1, q2⟩, hq⟩ : ∃ q, q = pluF a b := ⟨_, rfl⟩
  rw [← hq] at HF ⊢
  obtain ⟨a1, a2⟩ := a
  obtain ⟨b1, b2⟩ := b
  dsimp only at *
  generalize lcmZ a2 b2 = d at *
  have p1 : IntKind.i64.wrap (Int.tdiv d a2) = Int.tdiv d a2 := wrapI_mid (tdiv_mid hd _)
  have p2 : IntKind.i64.wrap (Int.tdiv d b2) = Int.tdiv d b2 := wrapI_mid (tdiv_mid hd _)
  have p3 : wrap64 (Int.tdiv d a2) = Int.tdiv d a2 := wrap_mid (tdiv_mid hd _)
  have p4 : wrap64 (Int.tdiv d b2) = Int.tdiv d b2 := wrap_mid (tdiv_mid hd _)
  have p5 : IntKind.i64.wrap (a1 * Int.tdiv d a2) = a1 * Int.tdiv d a2 := wrapI_mid h1
  have p6 : IntKind.i64.wrap (b1 * Int.tdiv d b2) = b1 * Int.tdiv d b2 := wrapI_mid h2
  have p7 : wrap64 (a1 * Int.tdiv d a2) = a1 * Int.tdiv d a2 := wrap_mid h1
  have p8 : wrap64 (b1 * Int.tdiv d b2) = b1 * Int.tdiv d b2 := wrap_mid h2
  have p9 : IntKind.i64.wrap (a1 * Int.tdiv d a2 + b1 * Int.tdiv d b2) = a1 * Int.tdiv d a2 + b1 * Int.tdiv d b2 := wrapI_mid hn
  have p10 : wrap64 (a1 * Int.tdiv d a2 + b1 * Int.tdiv d b2) = a1 * Int.tdiv d a2 + b1 * Int.tdiv d b2 := wrap_mid hn
  have e1 : (a2 == 0) = false := by simpa using ha0
  have e2 : (b2 == 0) = false := by simpa using hb0
  have HW := Lib.hid hW
  have HB := Lib.hid hB
  have HZ := Lib.hid hz
  have G0 := Lib.hid g0
  have G1 := Lib.hid g1
  have G2 := Lib.hid g2
  have r0 := (blk_cell (j := 0) g0).trans (show _ = some (.int .i64 a1) from rfl)
  have r1 := (blk_cell (j := 1) g0).trans (show _ = some (.int .i64 a2) from rfl)
  have r2 := (blk_cell (j := 0) g1).trans (show _ = some (.int .i64 b1) from rfl)
  have r3 := (blk_cell (j := 1) g1).trans (show _ = some (.int .i64 b2) from rfl)
  clear hW hB hz g0 g1 g2 hd hd0 h1 h2 hn ha hb hq HE HN
  unfold ratZ at HF ⊢
  go_enter Try.func92, Try.ntmps92
  go_wp2_with fail
  rw [HW.out]
  refine (HM.out W).mono ?_
  rintro e w1 ⟨rfl, m, hm⟩
  clear r0 r1 r2 r3
  have X0 := Lib.hid (show w1.heap[s]? = some (.cells #[.int .i64 a1, .int .i64 a2] 29 (0, 0)) by rw [hm]; exact G0.out)
  have X1 := Lib.hid (show w1.heap[s + 1]? = some (.cells #[.int .i64 b1, .int .i64 b2] 29 (0, 0)) by rw [hm]; exact G1.out)
  have X2 := Lib.hid (show w1.heap[s + 1 + 1]? = some (.cells #[.int .i64 0, .int .i64 0] 29 (0, 0)) by rw [hm]; exact G2.out)
  have XZ := Lib.hid (show w1.heap.size = s + 1 + 1 + 1 by rw [hm]; exact HZ.out)
  have XB := Lib.hid (show Below s w w1 by rw [hm]; exact bdN' HB.out m)
  have HK := Lib.hid (fun (w5 : World) (h : Below w1.heap.size w1 w5) => show (w5.cell? ⟨s, 0, none⟩ = some (.int .i64 a1) ∧ w5.cell? ⟨s, 1, none⟩ = some (.int .i64 a2)) ∧ (w5.cell? ⟨s + 1, 0, none⟩ = some (.int .i64 b1) ∧ w5.cell? ⟨s + 1, 1, none⟩ = some (.int .i64 b2)) from
    have y0 := (h.block s (by rw [XZ.out]; omega)).trans X0.out
    have y1 := (h.block (s + 1) (by rw [XZ.out]; omega)).trans X1.out
    ⟨⟨blk_cell y0, blk_cell y0⟩, ⟨blk_cell y1, blk_cell y1⟩⟩)
  have HS0 := Lib.hid (HK.out w1.drew (Below.refl _ w1).drew)
  have BD := Lib.hid ((Below.refl w1.heap.size w1).drew)
  have HP := Lib.hid (fun (w5 : World) (k : Below w1.heap.size w1 w5) => put2 ((k.block (s + 1 + 1) (by rw [XZ.out]; omega)).trans X2.out) (.int .i64 q1) (.int .i64 q2))
  have HZ := Lib.hid (fun (w5 : World) (k : Below w1.heap.size w1 w5) => put2_below (W := w5) (g := s + 1 + 1) (.int .i64 q1) (.int .i64 q2) (XB.out.trans (k.mono (by rw [XZ.out]; omega))) (by omega) (by have := k.size; rw [XZ.out] at this; omega))
  have HK2 := Lib.hid (fun (w5 : World) (k : Below w1.heap.size w1 w5) => show let w6 := (w5.setCell ⟨s + 1 + 1, 0, none⟩ (.int .i64 q1)).setCell ⟨s + 1 + 1, 1, none⟩ (.int .i64 q2); (w6.cell? ⟨s, 0, none⟩ = some (.int .i64 a1) ∧ w6.cell? ⟨s, 1, none⟩ = some (.int .i64 a2)) ∧ (w6.cell? ⟨s + 1, 0, none⟩ = some (.int .i64 b1) ∧ w6.cell? ⟨s + 1, 1, none⟩ = some (.int .i64 b2)) from
    have t := HK.out w5 k
    ⟨⟨cell_off (cell_off t.1.1 (by omega)) (by omega), cell_off (cell_off t.1.2 (by omega)) (by omega)⟩, ⟨cell_off (cell_off t.2.1 (by omega)) (by omega), cell_off (cell_off t.2.2 (by omega)) (by omega)⟩⟩)
  clear hm X0 X1 X2
  go_wp2_with fail
  go_region_held3 (fun w' => (w'.cell? ⟨s, 0, none⟩ = some (.int .i64 a1) ∧ w'.cell? ⟨s, 1, none⟩ = some (.int .i64 a2)) ∧ (w'.cell? ⟨s + 1, 0, none⟩ = some (.int .i64 b1) ∧ w'.cell? ⟨s + 1, 1, none⟩ = some (.int .i64 b2)))
    (first | exact HS0.out | exact SK7.out | exact SK8.out)
    ((go_at_call 93; refine (HF.out w1.drew).mono ?_; rintro e w7 ⟨rfl, hb⟩; have B7 := Lib.hid (BD.out.trans (hb.mono BD.out.size)); have SK7 := Lib.hid (HK.out w7 B7.out); have SK8 := Lib.hid (HK2.out w7 B7.out); obtain ⟨d0, f0, d1, f1, HR⟩ := HP.out w7 B7.out; clear hb))
  all_goals
    have BZ := Lib.hid (HZ.out w7 B7.out)
    go_wp2_with fail
    (try simp only [Exit.inBlock, Exit.then])
    exact bodyPost_ret (v := .agg #[.int .i64 q1, .int .i64 q2]) (results_cell_row rfl _ _ (s + 1 + 1) 29 _ _ _ rfl HR.out Try.underlying29 rfl sizeRat) rfl ⟨rfl, by rw [HS.out]; exact BZ.out⟩
end Go.Proofs.Ytegehfcnclpdeaa

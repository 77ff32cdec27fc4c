/-
  Chance, AtMost and Mean of both sides: the walks. Every argument.
-/
import Derived.Test.YtegehfcnclpdeabDoorCc3
namespace Go.Proofs.YtegehfcnclpdeabDoor
open Go.RowKit
set_option linter.unusedVariables false

theorem results_row_tmp {P : Program} {fn : Func} {p u : Tmp} {ty : TypeId} (h : fn.results = #[.cell p ty, .tmp u]) (tmps : Array Value) (w : World) (g : Nat) (t : TypeId) (cs : Array Value) (fr : Nat × Nat) (d : TypeDesc)
    (hp : tmps.getD p undef = .pointer (some ⟨g, 0, none⟩)) (hg : w.heap[g]? = some (.cells cs t fr))
    (hu : P.underlying ty = some d) (hd : (match d with | .struct _ | .array _ _ => true | _ => false) = true) (hi : (P.info? ty).map (·.size) = some cs.size) :
    (results fn tmps).run P w = .ok (.tuple #[.agg cs, tmps.getD u undef]) w := by
  have hp' : tmps[p]?.getD undef = .pointer (some ⟨g, 0, none⟩) := by simpa using hp
  simp [results, h, hp', asAddr, run_loadVar_row w g t ty cs fr d hg hu hd hi]
def chV (b m c a : Int) : Nat × Nat := if chE b m c a = 0 then chN b.toNat m.toNat c.toNat a.toNat else (0, 0)
def amV (b m c a : Int) : Nat × Nat := if chE b m c a = 0 then amN b.toNat m.toNat c.toNat (a.toNat + 1) else (0, 0)
def meE (b m c : Int) : Int := if chE b m c 0 = 0 then (if b = 0 then 10 else 0) else chE b m c 0
def meV (b m c : Int) : Nat × Nat := if meE b m c = 0 then fr (m.toNat * c.toNat) b.toNat else (0, 0)
theorem chE_fit {b m c a : Int} (h : chE b m c a = 0) : ((0 ≤ b ∧ b ≤ 60) ∧ (0 ≤ m ∧ m ≤ 60) ∧ (0 ≤ c ∧ c ≤ 60) ∧ (0 ≤ a ∧ a ≤ 60)) ∧ m ≤ b ∧ c ≤ b := by
  unfold chE at h
  split at h
  · rename_i hv
    refine ⟨allB4 hv, ?_⟩
    split at h
    · cases h
    · omega
  · cases h
/-- A result cell of two and a recapture's box, as a call begins. -/
theorem box_r2 (w : World) (b m c a : Int) : ∃ W, (w.alloc (.cells #[.int .i64 0, .int .i64 0] 31)).alloc (.cells #[.int .i64 b, .int .i64 m, .int .i64 c, .int .i64 a] 47) = W ∧
    (((w.alloc (.cells #[.int .i64 0, .int .i64 0] 31)).alloc (.cells #[.int .i64 b, .int .i64 m, .int .i64 c, .int .i64 a] 47)).cell? ⟨w.heap.size + 1, 0, none⟩ = some (.int .i64 b) ∧ ((w.alloc (.cells #[.int .i64 0, .int .i64 0] 31)).alloc (.cells #[.int .i64 b, .int .i64 m, .int .i64 c, .int .i64 a] 47)).cell? ⟨w.heap.size + 1, 1, none⟩ = some (.int .i64 m) ∧ ((w.alloc (.cells #[.int .i64 0, .int .i64 0] 31)).alloc (.cells #[.int .i64 b, .int .i64 m, .int .i64 c, .int .i64 a] 47)).cell? ⟨w.heap.size + 1, 2, none⟩ = some (.int .i64 c) ∧ ((w.alloc (.cells #[.int .i64 0, .int .i64 0] 31)).alloc (.cells #[.int .i64 b, .int .i64 m, .int .i64 c, .int .i64 a] 47)).cell? ⟨w.heap.size + 1, 3, none⟩ = some (.int .i64 a)) ∧
    (W.cell? ⟨w.heap.size + 1, 0, none⟩ = some (.int .i64 b) ∧ W.cell? ⟨w.heap.size + 1, 1, none⟩ = some (.int .i64 m) ∧ W.cell? ⟨w.heap.size + 1, 2, none⟩ = some (.int .i64 c) ∧ W.cell? ⟨w.heap.size + 1, 3, none⟩ = some (.int .i64 a)) ∧
    W.heap[w.heap.size]? = some (.cells #[.int .i64 0, .int .i64 0] 31 (0, 0)) ∧ W.heap.size = w.heap.size + 2 ∧ Below w.heap.size w W := by
  have hg := heap_alloc_new w (.cells #[.int .i64 0, .int .i64 0] 31)
  have hs : (w.alloc (.cells #[.int .i64 0, .int .i64 0] 31)).heap.size = w.heap.size + 1 := by simp
  obtain ⟨c0, c1, c2, c3, hb⟩ := box_rc (w.alloc (.cells #[.int .i64 0, .int .i64 0] 31)) b m c a 47
  rw [hs] at c0 c1 c2 c3
  exact ⟨_, rfl, ⟨c0, c1, c2, c3⟩, ⟨c0, c1, c2, c3⟩, (hb.block w.heap.size (by omega)).trans hg, by simp, ((Below.refl _ _).alloc (Nat.le_refl _) _).trans (hb.mono (by omega))⟩
set_option maxRecDepth 4000 in
set_option maxHeartbeats 1000000 in
theorem AtMost_any (b m c a : Int) (w : World) : Calls Tryd.prog 7 #[.int .i64 b, .int .i64 m, .int .i64 c, .int .i64 a] w fun e w' => e = .returned (.tuple #[ratV (amV b m c a), .int .i64 (chE b m c a)]) ∧ Below w.heap.size w w' := by
  obtain ⟨W, hW, ⟨c0, c1, c2, c3⟩, ⟨x0, x1, x2, x3⟩, hg, hz, hB⟩ := box_r2 w b m c a
  have HW := Lib.hid hW
  have HC := Lib.hid (check_any b m c a W)
  clear hW
  by_cases he : chE b m c a = 0
  · rw [he] at HC
    have HE := Lib.hid he
    have HV := Lib.hid (show amV b m c a = amN b.toNat m.toNat c.toNat (a.toNat + 1) from if_pos he)
    obtain ⟨hb, hm, hc⟩ := chE_fit he
    have HX := Lib.hid (fun w => atMost_any b.toNat m.toNat c.toNat (a.toNat + 1) (by omega) (by omega) (by omega) (by omega) w)
    rw [show ((b.toNat : Nat) : Int) = b by omega, show ((m.toNat : Nat) : Int) = m by omega, show ((c.toNat : Nat) : Int) = c by omega, show (((a.toNat + 1 : Nat) : Int) - 1) = a by omega] at HX
    clear he hb hm hc
    generalize amN b.toNat m.toNat c.toNat (a.toNat + 1) = q at *
    obtain ⟨q1, q2⟩ := q
    unfold ratV at HX
    go_enter Tryd.func7, Tryd.ntmps7
    go_wp2_with fail
    rw [HW.out]
    refine HC.out.mono ?_
    rintro e w1 ⟨rfl, hb1⟩
    have y0 := cell_keep x0 hb1 (by omega)
    have y1 := cell_keep x1 hb1 (by omega)
    have y2 := cell_keep x2 hb1 (by omega)
    have y3 := cell_keep x3 hb1 (by omega)
    have hB1 := hB.trans (hb1.mono hB.size)
    have hg1 := (hb1.block w.heap.size (by omega)).trans hg
    have hz1 : w.heap.size < w1.heap.size := by have := hb1.size; omega
    have HG1 := Lib.hid hg1
    have HB1 := Lib.hid hB1
    have HZ1 := Lib.hid hz1
    clear c0 c1 c2 c3 x0 x1 x2 x3 hg hz hB hb1 hg1 hB1 hz1
    go_wp2_with fail
    refine (HX.out w1).mono ?_
    rintro e w2 ⟨rfl, hb2⟩
    have hg2 := (hb2.block w.heap.size HZ1.out).trans HG1.out
    have hB2 := HB1.out.trans (hb2.mono HB1.out.size)
    clear y0 y1 y2 y3
    obtain ⟨d0, f0, d1, f1, HR⟩ := put2 hg2 (.int .i64 (q1 : Int)) (.int .i64 (q2 : Int))
    have BZ := Lib.hid (put2_below (W := w2) (g := w.heap.size) (.int .i64 (q1 : Int)) (.int .i64 (q2 : Int)) hB2 (Nat.le_refl _) (hB2).size)
    clear hg2 hB2 hb2
    go_wp2_with fail
    (try simp only [Exit.inBlock, Exit.then])
    refine bodyPost_ret (v := .tuple #[.agg #[.int .i64 (q1 : Int), .int .i64 (q2 : Int)], .int .i64 0]) (results_row_tmp (p := 8) (u := 9) rfl _ _ w.heap.size 31 _ _ _ rfl HR.out Tryd.underlying31 rfl sizeRat) rfl ⟨?_, BZ.out⟩
    rw [HV.out, HE.out]; rfl
  · have e1 : (chE b m c a != 0) = true := by simpa using he
    have HV := Lib.hid (show amV b m c a = (0, 0) from if_neg he)
    clear he
    generalize chE b m c a = E at *
    go_enter Tryd.func7, Tryd.ntmps7
    go_wp2_with fail
    rw [HW.out]
    refine HC.out.mono ?_
    rintro e w1 ⟨rfl, hb1⟩
    have hB1 := hB.trans (hb1.mono hB.size)
    have hg1 := (hb1.block w.heap.size (by omega)).trans hg
    obtain ⟨d0, f0, d1, f1, HR⟩ := put2 hg1 (.int .i64 0) (.int .i64 0)
    have BZ := Lib.hid (put2_below (W := w1) (g := w.heap.size) (.int .i64 0) (.int .i64 0) hB1 (Nat.le_refl _) (hB1).size)
    clear c0 c1 c2 c3 x0 x1 x2 x3 hg hz hB hb1 hg1 hB1
    go_wp2_with fail
    (try simp only [Exit.inBlock, Exit.then])
    refine bodyPost_ret (v := .tuple #[.agg #[.int .i64 0, .int .i64 0], .int .i64 E]) (results_row_tmp (p := 8) (u := 9) rfl _ _ w.heap.size 31 _ _ _ rfl HR.out Tryd.underlying31 rfl sizeRat) rfl ⟨?_, BZ.out⟩
    rw [HV.out]; rfl
end Go.Proofs.YtegehfcnclpdeabDoor

/-
  The chance of at least so many: the walk of atLeast. Condition: numbers of birds, marked and caught not above birds.
-/
import Derived.Test.YtgpghnhpbjnhkaaCc9
import Derived.Test.YtgpghnhpbjnhkaaCc6
namespace Go.Proofs.Ytgpghnhpbjnhkaa
open Go.RowKit
set_option linter.unusedVariables false

def alN (b m c a : Nat) : Nat × Nat := ((amN b m c a).2 - (amN b m c a).1, (amN b m c a).2)
set_option maxRecDepth 4000 in
set_option maxHeartbeats 2000000 in
theorem atLeast_any (b m c a : Nat) (hb : b ≤ 60) (hm : m ≤ b) (hc : c ≤ b) (ha : a ≤ 60) (w : World) :
    Calls Try.prog 59 #[.agg (rc b m c a)] w fun e w' => e = .returned (ratV (alN b m c a)) ∧ Below w.heap.size w w' := by
  have HX := Lib.hid (fun w => atMost_any b m c a hb hm hc (by omega) w)
  have hle : (amN b m c a).1 ≤ (amN b m c a).2 := fr_sub_le (ch_pos hc) (upW_le hm a)
  have hl2 : (amN b m c a).2 ≤ 118264581564861424 := Nat.le_trans (fr_le _ _).2 (ch_small hb c)
  have HE := Lib.hid (show alN b m c a = ((amN b m c a).2 - (amN b m c a).1, (amN b m c a).2) from rfl)
  generalize amN b m c a = p at *
  obtain ⟨p1, p2⟩ := p
  simp only at hle hl2 HE
  have HS := Lib.hid (show ((p2 - p1 : Nat) : Int) = (p2 : Int) - (p1 : Int) by omega)
  unfold ratV at HX
  unfold rc at HX
  obtain ⟨c0, c1, c2, c3, hb0⟩ := box_rc w b m c a 51
  have d0 := cell_up (o := .cells #[.int .i64 0, .int .i64 0] 31) c0
  have d1 := cell_up (o := .cells #[.int .i64 0, .int .i64 0] 31) c1
  have d2 := cell_up (o := .cells #[.int .i64 0, .int .i64 0] 31) c2
  have d3 := cell_up (o := .cells #[.int .i64 0, .int .i64 0] 31) c3
  have s1 : (w.alloc (.cells (rc b m c a) 51)).heap.size = w.heap.size + 1 := by simp
  have hz := heap_alloc_new (w.alloc (.cells (rc b m c a) 51)) (.cells #[.int .i64 0, .int .i64 0] 31)
  have hB2 := hb0.alloc hb0.size (.cells #[.int .i64 0, .int .i64 0] 31)
  obtain ⟨W2, hW2⟩ : ∃ W2, (w.alloc (.cells (rc b m c a) 51)).alloc (.cells #[.int .i64 0, .int .i64 0] 31) = W2 := ⟨_, rfl⟩
  have s2 : W2.heap.size = w.heap.size + 2 := by rw [← hW2]; simp
  rw [s1] at hz
  rw [hW2] at hz hB2
  have hzU := blk_up (o := .cells #[.int .i64 (b : Int), .int .i64 (m : Int), .int .i64 (c : Int), .int .i64 ((a : Int) - 1)] 51) hz
  have hBU := hB2.alloc hB2.size (.cells #[.int .i64 (b : Int), .int .i64 (m : Int), .int .i64 (c : Int), .int .i64 ((a : Int) - 1)] 51)
  obtain ⟨U, hU⟩ : ∃ U, W2.alloc (.cells #[.int .i64 (b : Int), .int .i64 (m : Int), .int .i64 (c : Int), .int .i64 ((a : Int) - 1)] 51) = U := ⟨_, rfl⟩
  rw [hU] at hzU hBU
  have HW := Lib.hid (show ((w.alloc (.cells (rc b m c a) 51)).alloc (.cells #[.int .i64 0, .int .i64 0] 31)).alloc (.cells #[.int .i64 (b : Int), .int .i64 (m : Int), .int .i64 (c : Int), .int .i64 ((a : Int) - 1)] 51) = U by rw [hW2, hU])
  subst hW2
  have HBU := Lib.hid hBU
  have HZU := Lib.hid hzU
  have HSU := Lib.hid (lt_of_blk hzU)
  clear c0 c1 c2 c3 hb0 s1 hz hB2 s2 hU hBU hzU
  go_enter Try.func59, Try.ntmps59
  go_wp2_with fail
  rw [HW.out]
  refine (HX.out U).mono ?_
  rintro e w5 ⟨rfl, hb⟩
  have hz5 := blk_up (o := .cells #[.int .i64 (p1 : Int), .int .i64 (p2 : Int)] 31) ((hb.block _ HSU.out).trans HZU.out)
  have hB5 := HBU.out.trans (hb.mono HBU.out.size)
  have hB6 := hB5.alloc hB5.size (.cells #[.int .i64 (p1 : Int), .int .i64 (p2 : Int)] 31)
  have hr := heap_alloc_new w5 (.cells #[.int .i64 (p1 : Int), .int .i64 (p2 : Int)] 31)
  have r0 := (blk_cell (j := 0) hr).trans (show _ = some (.int .i64 (p1 : Int)) from rfl)
  have r1 := (blk_cell (j := 1) hr).trans (show _ = some (.int .i64 (p2 : Int)) from rfl)
  obtain ⟨x0, f0, x1, f1, HR⟩ := put2 hz5 (.int .i64 ((p2 : Int) - (p1 : Int))) (.int .i64 (p2 : Int))
  have BZ := Lib.hid (put2_below (g := w.heap.size + 1) (.int .i64 ((p2 : Int) - (p1 : Int))) (.int .i64 (p2 : Int)) hB6 (by omega) hB6.size)
  clear hz5 hB5 hB6 hr hb
  clear d0 d1 d2 d3
  go_wp2_with fail
  (try simp only [Exit.inBlock, Exit.then])
  refine bodyPost_ret (v := .agg #[.int .i64 ((p2 : Int) - (p1 : Int)), .int .i64 (p2 : Int)]) (results_cell_row rfl _ _ (w.heap.size + 1) 31 _ _ _ rfl HR.out Try.underlying31 rfl sizeRat) rfl ⟨?_, BZ.out⟩
  rw [HE.out, ← HS.out]; rfl
end Go.Proofs.Ytgpghnhpbjnhkaa

/-
  The search for pays: the walks of Core's deferred function and of Core where no pay is in the core. Condition: how the run goes is told ahead.
-/
import Derived.Test.YtfmhanpibgmgfaaPuh
import Derived.Defers
import Derived.Recover
import Derived.Tactics2
import Derived.Laws.Pointers
namespace Go.Proofs.Ytfmhanpibgmgfaa
open Go.RowKit
set_option linter.unusedVariables false

theorem assert_nil (W : World) : (Instr.typeAssert .nilIface 20 44 true).run Try.prog W = .ok (.tuple #[.agg #[.int .i64 0, .slice none 0 0], .bool false]) W := by kernel_rfl
theorem catch_idle (p f : Nat) (x y z : Value) (w : World) (h0 : w.cell? ⟨p, 0, none⟩ = some x) (h1 : w.cell? ⟨p, 1, none⟩ = some y) (h2 : w.cell? ⟨f, 0, none⟩ = some z) (z0 : w.frozen? ⟨p, 0, none⟩ = false) (z1 : w.frozen? ⟨p, 1, none⟩ = false) (z2 : w.frozen? ⟨f, 0, none⟩ = false) (hpf : p ≠ f) :
    CallsD Try.prog 80 #[.pointer (some ⟨p, 0, none⟩), .pointer (some ⟨f, 0, none⟩)] .returning w fun e u' w' => e = .returned (.tuple #[]) ∧ u' = .returning ∧ w' = ((w.setCell ⟨p, 0, none⟩ (.int .i64 0)).setCell ⟨p, 1, none⟩ (.slice none 0 0)).setCell ⟨f, 0, none⟩ (.bool false) := by
  refine callsD_of_wpS Try.func80 rfl fun c₀ cs hu => ?_
  have ht := assert_nil
  apply wpS_region
  simp [ht, wpOpsS, go_sem, recoverD, hu, Try.ntmps80, bodyPostS, results, Try.results80, h0, h1, h2, z0, z1, z2]
  cases c₀
  simp_all
set_option maxRecDepth 8000 in
set_option maxHeartbeats 4000000 in
theorem Core_none (Av : Option Addr) (v : List Int) (cv n t : Nat) (pv : Pv v n) (hv : vdE v = 0) (hup : upB 1000 v = true) (hrun : RunN n v.length t ⟨1, alF, inF, excF v 1 (rowF (vaF v) n)⟩) (w : World) (hrv : Rd w w.heap.size Av (ints v)) :
    Calls Try.prog 47 #[.slice Av v.length cv] w fun e w' => e = .returned (.tuple #[.agg #[.int .i64 0, .slice none 0 0], .bool false, .int .i64 0]) ∧ Below w.heap.size w w' := by
  have hmf : ∀ (fn : Fn) (first cap : Array Value) (w : World), (Instr.makeFunc fn first cap).run Try.prog w = .ok (.func fn first cap) w := fun _ _ _ _ => rfl
  have h32 := pv.le
  obtain ⟨W1, hW1, k1, s1, b1⟩ := one_blk w #[.slice Av v.length cv] 22
  obtain ⟨W2, hW2, k2, s2, b2⟩ := one_blk W1 #[.int .i64 0, .slice none 0 0] 44
  obtain ⟨W3, hW3, k3, s3, b3⟩ := one_blk W2 #[.bool false] 4
  have HW1 := Lib.hid hW1
  have HW2 := Lib.hid hW2
  have HW3 := Lib.hid hW3
  obtain ⟨s, hs⟩ : ∃ s, w.heap.size = s := ⟨_, rfl⟩
  have hz1 : W1.heap.size = s + 1 := by rw [← hW1]; simp [hs]
  have hz2 : W2.heap.size = s + 1 + 1 := by rw [← hW2]; simp [hz1]
  have hz3 : W3.heap.size = s + 1 + 1 + 1 := by rw [← hW3]; simp [hz2]
  have hB3 : Below s w W3 := by rw [← hs]; exact b1.trans ((b2.trans (b3.mono b2.size)).mono (by omega))
  have K1 := Lib.hid (show W3.heap[s]? = some (.cells #[.slice Av v.length cv] 22 (0, 0)) from by rw [← hs]; exact (b3.block _ (by omega)).trans ((b2.block _ s1).trans k1))
  have K2 := Lib.hid (show W3.heap[s + 1]? = some (.cells #[.int .i64 0, .slice none 0 0] 44 (0, 0)) from by rw [← hz1]; exact (b3.block _ s2).trans k2)
  have K3 := Lib.hid (show W3.heap[s + 1 + 1]? = some (.cells #[.bool false] 4 (0, 0)) from by rw [← hz2]; exact k3)
  have HB3 := Lib.hid hB3
  have HZ3 := Lib.hid hz3
  have HSz := Lib.hid hs
  have HR3 := Lib.hid ((hrv.below (by rw [hs]; exact hB3) (Nat.le_refl _)).more (by omega : w.heap.size ≤ W3.heap.size))
  have HV := Lib.hid (Validate_any Av v cv (by omega) W3 HR3.out)
  rw [hv] at HV
  have HSe := Lib.hid (fun w h => search_any Av v cv n t ⟨s, 0, none⟩ pv hup hrun w h)
  generalize v.length = L at *
  clear hW1 hW2 hW3 k1 k2 k3 s1 s2 s3 b1 b2 b3 hz1 hz2 hz3 hB3 hs pv hv hup hrun hrv h32
  have m0 : W3.cell? ⟨s, 0, none⟩ = some (.slice Av L cv) := blk_cell K1.out
  go_enter_defers Try.func47, Try.ntmps47
  go_wp2_with fail
  rw [HW1.out, HW2.out, HW3.out, HSz.out]
  refine HV.out.mono ?_
  rintro e w1 ⟨rfl, hb1⟩
  have m1 : w1.cell? ⟨s, 0, none⟩ = some (.slice Av L cv) := (hb1.cell (p := ⟨s, 0, none⟩) (by show s < _; have := HZ3.out; omega)).trans m0
  have HB1 := Lib.hid (HB3.out.trans (hb1.mono (by have := HZ3.out; omega)))
  have HSe1 := Lib.hid (HSe.out w1 ((HR3.out.below hb1 (Nat.le_refl _)).more hb1.size))
  have K21 := Lib.hid ((hb1.block _ (lt_of_block' K2.out)).trans K2.out)
  have K31 := Lib.hid ((hb1.block _ (lt_of_block' K3.out)).trans K3.out)
  clear hb1
  go_wp2_with fail
  refine HSe1.out.mono ?_
  rintro e w2 ⟨⟨v2, rfl⟩, hb2⟩
  have X2 := (hb2.block _ (lt_of_block' K21.out)).trans K21.out
  have X3 := (hb2.block _ (lt_of_block' K31.out)).trans K31.out
  have HB2 := Lib.hid (HB1.out.trans (hb2.mono (by have := (Nat.lt_of_lt_of_le (lt_of_block' K21.out) (Nat.le_refl _)); omega)))
  have y0 := blk_cell (j := 0) X2
  have y1 := blk_cell (j := 1) X2
  have y2 := blk_cell (j := 0) X3
  have q0 := blk_free X2 0
  have q1 := blk_free X2 1
  have q2 := blk_free X3 0
  have Y2 := blk_set (blk_set X2 0 (.int .i64 0)) 1 (.slice none 0 0)
  have hne : s + 1 + 1 ≠ s + 1 := by omega
  have Y3 := (Below.heap_setCell _ ⟨s + 1, 1, none⟩ (.slice none 0 0) _ hne).trans ((Below.heap_setCell _ ⟨s + 1, 0, none⟩ (.int .i64 0) _ hne).trans X3)
  have Z3 := blk_set Y3 0 (.bool false)
  have Z2 := (Below.heap_setCell _ ⟨s + 1 + 1, 0, none⟩ (.bool false) _ (Ne.symm hne)).trans Y2
  have HZ2 := Lib.hid Z2
  have HZ3 := Lib.hid Z3
  have r2 := blk_cell (j := 0) Y3
  have r3 := blk_free Y3 0
  have HBz := Lib.hid (((HB2.out.setCell (p := ⟨s + 1, 0, none⟩) (by show s ≤ s + 1; omega) (.int .i64 0)).setCell (p := ⟨s + 1, 1, none⟩) (by show s ≤ s + 1; omega) (.slice none 0 0)).setCell (p := ⟨s + 1 + 1, 0, none⟩) (by show s ≤ s + 1 + 1; omega) (.bool false))
  clear hb2 X2 X3 Y2 Y3 Z2 Z3
  go_wp2_with fail
  obtain ⟨wz, hwz⟩ : ∃ wz, ((w2.setCell ⟨s + 1, 0, none⟩ (.int .i64 0)).setCell ⟨s + 1, 1, none⟩ (.slice none 0 0)).setCell ⟨s + 1 + 1, 0, none⟩ (.bool false) = wz := ⟨_, rfl⟩
  rw [hwz] at HZ2 HZ3 HBz ⊢
  have V2 := HZ2.out
  have V3 := HZ3.out
  have U2 := blk_set (blk_set V2 0 (.int .i64 0)) 1 (.slice none 0 0)
  have U3 := (Below.heap_setCell _ ⟨s + 1, 1, none⟩ (.slice none 0 0) _ hne).trans ((Below.heap_setCell _ ⟨s + 1, 0, none⟩ (.int .i64 0) _ hne).trans V3)
  have T3 := blk_set U3 0 (.bool false)
  have T2 := (Below.heap_setCell _ ⟨s + 1 + 1, 0, none⟩ (.bool false) _ (Ne.symm hne)).trans U2
  have HBy := Lib.hid (((HBz.out.setCell (p := ⟨s + 1, 0, none⟩) (by show s ≤ s + 1; omega) (.int .i64 0)).setCell (p := ⟨s + 1, 1, none⟩) (by show s ≤ s + 1; omega) (.slice none 0 0)).setCell (p := ⟨s + 1 + 1, 0, none⟩) (by show s ≤ s + 1 + 1; omega) (.bool false))
  refine leaves_cons (f := 80) (args := #[.pointer (some ⟨s + 1, 0, none⟩), .pointer (some ⟨s + 1 + 1, 0, none⟩)]) (by simp) (by simp [go_sem]) ?_
  refine (catch_idle (s + 1) (s + 1 + 1) _ _ _ _ (blk_cell V2) (blk_cell V2) (blk_cell V3) (blk_free V2 0) (blk_free V2 1) (blk_free V3 0) (by omega)).mono ?_
  rintro e u' w'' ⟨rfl, rfl, rfl⟩
  obtain ⟨wy, hwy⟩ : ∃ wy, ((wz.setCell ⟨s + 1, 0, none⟩ (.int .i64 0)).setCell ⟨s + 1, 1, none⟩ (.slice none 0 0)).setCell ⟨s + 1 + 1, 0, none⟩ (.bool false) = wy := ⟨_, rfl⟩
  rw [hwy] at T2 T3 HBy ⊢
  have t0 : wy.cell? ⟨s + 1, 0, none⟩ = some (.int .i64 0) := blk_cell T2
  have t1 : wy.cell? ⟨s + 1, 1, none⟩ = some (.slice none 0 0) := blk_cell T2
  have t2 : wy.cell? ⟨s + 1 + 1, 0, none⟩ = some (.bool false) := blk_cell T3
  have hb : Below w.heap.size w wy := by rw [HSz.out]; exact HBy.out
  simp [Leaves, settle, results, Try.results47, go_sem, t0, t1, t2, hb]
end Go.Proofs.Ytfmhanpibgmgfaa

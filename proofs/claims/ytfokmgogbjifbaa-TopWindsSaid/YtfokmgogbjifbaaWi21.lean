/-
  Rows of any length; the walk of busyPipes. No condition.
-/
import Derived.Test.YtfokmgogbjifbaaWi20
import Derived.Test.YtfokmgogbjifbaaWb6
import Derived.Test.YtfokmgogbjifbaaWi5
import Derived.Laws.CopyOwn
namespace Go.Proofs.Ytfokmgogbjifbaa
open Go.RowKit
set_option linter.unusedVariables false

def rowV (f : Nat → Value) (n : Nat) : Array Value := ((List.range n).map f).toArray
theorem rowV_at {f : Nat → Value} {n j : Nat} (h : j < n) : (rowV f n)[j]? = some (f j) := by simp [rowV, h]
theorem rowV_size (f : Nat → Value) (n : Nat) : (rowV f n).size = n := by simp [rowV]
theorem rowV_congr {f g : Nat → Value} {n : Nat} (h : ∀ j, j < n → f j = g j) : rowV f n = rowV g n := by
  unfold rowV
  congr 1
  exact List.map_congr_left fun j hj => by rw [h j (List.mem_range.1 hj)]
theorem rowV_set (f : Nat → Value) (n k : Nat) (v : Value) : (rowV f n).setIfInBounds k v = rowV (fun j => if j = k then v else f j) n := by
  unfold rowV
  rw [List.setIfInBounds_toArray]
  congr 1
  refine List.ext_getElem? fun j => ?_
  rw [List.getElem?_set]
  simp only [List.getElem?_map, List.length_map, List.length_range]
  by_cases hj : k = j
  · subst hj
    by_cases hk : k < n
    · rw [if_pos rfl, if_pos hk, List.getElem?_range hk]; simp
    · rw [if_pos rfl, if_neg hk, List.getElem?_eq_none (by simpa using hk)]; rfl
  · rw [if_neg hj]
    by_cases hjn : j < n
    · rw [List.getElem?_range hjn]; simp [Ne.symm hj]
    · rw [List.getElem?_eq_none (by simpa using hjn)]; rfl
/-- The pipes of each wind, as far as they are laid. -/
def bsyF (l : List Pt) (k j : Nat) : Value := .int .i64 ((if j < k then workN l j else 0 : Nat) : Int)
theorem bsy_next (l : List Pt) {k : Nat} (hk : k < 32) : (rowV (bsyF l k) 32).setIfInBounds k (.int .i64 ((workN l k : Nat) : Int)) = rowV (bsyF l (k + 1)) 32 := by
  rw [rowV_set]
  refine rowV_congr fun j hj => ?_
  unfold bsyF
  by_cases h : j = k
  · subst h
    rw [if_pos rfl, if_pos (Nat.lt_succ_self _)]
  · rw [if_neg h]
    by_cases h1 : j < k
    · rw [if_pos h1, if_pos (by omega)]
    · rw [if_neg h1, if_neg (by omega)]
def bsyV (l : List Pt) : Array Value := rowV (bsyF l 32) 32
theorem bsy_zero (l : List Pt) : rowV (bsyF l 0) 32 = rowV (fun _ => .int .i64 0) 32 := rowV_congr fun j _ => by unfold bsyF; rw [if_neg (by omega)]; rfl
theorem one_row (l : List Pt) (w : World) (t : TypeId) : ∃ W, w.alloc (.cells #[.int .i64 0, .int .i64 0, .int .i64 0, .int .i64 0, .int .i64 0, .int .i64 0, .int .i64 0, .int .i64 0, .int .i64 0, .int .i64 0, .int .i64 0, .int .i64 0, .int .i64 0, .int .i64 0, .int .i64 0, .int .i64 0, .int .i64 0, .int .i64 0, .int .i64 0, .int .i64 0, .int .i64 0, .int .i64 0, .int .i64 0, .int .i64 0, .int .i64 0, .int .i64 0, .int .i64 0, .int .i64 0, .int .i64 0, .int .i64 0, .int .i64 0, .int .i64 0] t) = W ∧ W.heap[w.heap.size]? = some (.cells (rowV (bsyF l 0) 32) t (0, 0)) ∧ w.heap.size < W.heap.size ∧ Below w.heap.size w W := by
  obtain ⟨W, h1, h2⟩ := one_blk w (rowV (bsyF l 0) 32) t
  rw [bsy_zero] at h1 ⊢
  rw [bsy_zero] at h2
  exact ⟨W, h1, h2⟩
theorem size_row (f : Nat → Value) : (Try.prog.info? 62).map (·.size) = some (rowV f 32).size := by rw [rowV_size]; exact Try.sizeRose
theorem workN_small {l : List Pt} (h : l.length ≤ 10) (p : Nat) : workN l p < 1024 := bitK_small _ h
set_option maxRecDepth 4000 in
set_option maxHeartbeats 800000 in
theorem busyPipes_any (A : Option Addr) (c : Nat) (l : List Pt) (w : World) (hr : Rd w w.heap.size A (l.flatMap Pt.cells)) (hn : pipesE l = 0) :
    Calls Try.prog 33 #[.slice A l.length c] w fun e w' => e = .returned (.agg (bsyV l)) ∧ Below w.heap.size w w' := by
  have HR := Lib.hid hr
  have HK := Lib.hid (fun p w h hp => workable_any A c l p w h hn hp)
  obtain ⟨h10, _⟩ := pipesE_zero hn
  obtain ⟨W1, hW1, hblk1, hs1, hb1⟩ := one_row l w 62
  obtain ⟨W2, hW2, hblk2, hs2, hb2⟩ := one_row l W1 62
  have R1 := Lib.hid ((hb2.block _ hs1).trans hblk1)
  have B2 := Lib.hid (hb1.trans (hb2.mono hb1.size))
  have BK := Lib.hid hblk2
  have HS1 := Lib.hid hs1
  clear hblk1 hs1 hb1 hblk2 hs2 hb2 hr hn
  go_enter Try.func33, Try.ntmps33
  go_wp2_with fail
  clear hW1 hW2
  go_loopw [4, 5] (fun _ p wr => ∃ k : Nat, k ≤ 32 ∧ p = .int .i64 k ∧ wr.heap[w.heap.size]? = some (.cells (rowV (bsyF l 0) 32) 62 (0, 0)) ∧ wr.heap[W1.heap.size]? = some (.cells (rowV (bsyF l k) 32) 62 (0, 0)) ∧ Below w.heap.size w wr) (fun _ p _ => 32 - (intOf p).toNat)
  case atStart => exact ⟨0, by omega, rfl, R1.out, BK.out, B2.out⟩
  case round =>
    obtain ⟨k, hk, rfl, hr, hblk, hb⟩ := hrel
    have RK := Lib.hid hr
    have BK := Lib.hid hblk
    have BW := Lib.hid hb
    have RW := Lib.hid ((HR.out.below hb (Nat.le_refl _)).more hb.size)
    have hg0 := lt_of_block hr
    have hg : W1.heap.size < wr.heap.size := lt_of_block hblk
    clear hr hblk hb
    by_cases hlt : k < 32
    · have ek : decide ((k : Int) < 32) = true := by simp; omega
      have hwk := workN_small h10 k
      have HKk := Lib.hid (fun w h => HK.out k w h hlt)
      have HNx := Lib.hid (bsy_next l hlt)
      generalize workN l k = N at *
      go_wp2_with fail
      refine (HKk.out wr RW.out).mono ?_
      rintro e w2 ⟨rfl, hb⟩
      have B2 := Lib.hid (BW.out.trans (hb.mono BW.out.size))
      have RK2 := Lib.hid ((hb.block _ hg0).trans RK.out)
      have BK2 := Lib.hid ((hb.block _ hg).trans BK.out)
      have hcell : w2.cell? ⟨W1.heap.size, k, none⟩ = some (bsyF l k k) := by rw [blk_cell BK2.out]; exact rowV_at hlt
      have hfree := blk_free BK2.out k
      have hwr : IntKind.i64.wrap (N : Int) = (N : Int) := by rw [IntKind.wrap_i64]; omega
      have b0 : (0 : Int) ≤ (k : Int) := by omega
      clear hb
      go_wp2_with fail
      go_roundw
      case rel => exact ⟨k + 1, by omega, by go_num, (heap_setCell_other _ _ _ _ (Nat.ne_of_lt HS1.out)).trans RK2.out, by rw [blk_set BK2.out, HNx.out], Below.setCell B2.out (Nat.le_of_lt HS1.out) _⟩
      case measure => simp [intOf]; omega
    · have hks : k = 32 := by omega
      subst hks
      go_wp2_with (first | ((with_reducible show wpList _ _ _ (⟨some 15, _, _, _, _, _⟩ :: _) _ _); refine wpList_load_row rfl 62 (.tmp 3) rfl W1.heap.size rfl _ _ _ _ BK.out Try.underlying62 rfl (size_row _) ?_) | (refine wpList_store_row rfl 62 (.tmp 2) (.tmp 15) rfl w.heap.size _ rfl rfl _ _ RK.out (size_row _) (by rw [rowV_size, rowV_size]) (by simp [rowV, bsyF, Value.oneCell']) ?_))
      (try simp only [Exit.inBlock, Exit.then])
      refine bodyPost_ret (v := .agg (bsyV l)) (results_cell_row rfl _ _ w.heap.size 62 _ _ _ rfl (setRow_heap _ _ _ _ _ _ RK.out) Try.underlying62 rfl (size_row _)) rfl ⟨rfl, below_setRow BW.out (Nat.le_refl _) _⟩
end Go.Proofs.Ytfokmgogbjifbaa

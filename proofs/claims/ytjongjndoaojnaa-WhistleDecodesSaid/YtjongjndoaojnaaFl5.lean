/-
  Lengths: the walk of signalOf. Condition: the length is one.
-/
import Derived.Test.YtjongjndoaojnaaFl4
import Derived.Test.YtjongjndoaojnaaBit
import Derived.Laws.BytesArg
namespace Go.Proofs.Ytjongjndoaojnaa
open Go.RowKit
set_option linter.unusedVariables false

theorem Try.infoU8 : (Try.prog.info? 5).map (fun i => (i.zero, i.size, i.bytes)) = some (some (.int .u8 0), 1, 1) := by kernel_rfl
theorem eU8 : Elem Try.prog 92 5 (.int .u8 0) 1 1 := ⟨Try.underlying92, Try.infoU8, rfl, by decide, by decide⟩
def noteN (v n j : Nat) : Int := if v.testBit (n - 1 - j) then 45 else 46
def byts (l : List Int) : List Value := l.map (Value.int .u8)
/-- The first k notes; the rest is zero. -/
def sgL (v n k : Nat) : List Int := (List.range n).map fun j => if j < k then noteN v n j else 0
theorem sgL_str (v n : Nat) : strOfNums (sgL v n n) = sgN v n := by
  unfold strOfNums sgN sgL
  congr 2
  rw [List.map_map]
  refine List.map_congr_left fun j hj => ?_
  have := List.mem_range.1 hj
  simp only [Function.comp, if_pos this, noteN]
  split <;> rfl
theorem sgL_at {v n k j : Nat} (h : j < n) : (byts (sgL v n k)).toArray[j]? = some (.int .u8 (if j < k then noteN v n j else 0)) := by
  simp [byts, sgL, h]
theorem sgL_set {v n k : Nat} (x : Int) (hk : k < n) (hx : x = noteN v n k) : ((byts (sgL v n k)).toArray.setIfInBounds k (.int .u8 x)) = (byts (sgL v n (k + 1))).toArray := by
  rw [List.setIfInBounds_toArray]
  congr 1
  refine List.ext_getElem? fun j => ?_
  rw [List.getElem?_set]
  by_cases hj : j < n
  · have a1 := sgL_at (v := v) (k := k) hj
    have a2 := sgL_at (v := v) (k := k + 1) hj
    rw [List.getElem?_toArray] at a1 a2
    rw [a1, a2]
    by_cases h : k = j
    · subst h
      rw [if_pos rfl, if_pos (by simp [byts, sgL]; exact hk), if_pos (Nat.lt_succ_self _), hx]
    · rw [if_neg h]
      by_cases h2 : j < k
      · rw [if_pos h2, if_pos (by omega)]
      · rw [if_neg h2, if_neg (by omega)]
  · have e : ∀ k, (byts (sgL v n k))[j]? = none := fun k => by simp [byts, sgL]; omega
    rw [e, e, if_neg (by omega)]
theorem made_byts {w w1 : World} {n : Nat} (h : w1.ownsRow w.heap.size 5 1 (.slice (some ⟨w.heap.size, 0, none⟩) n n) n (madeCells (Value.int .u8 0).cells (n * 1)).toList) (hg : w.grownBy w1 none) :
    Below w.heap.size w w1 ∧ w1.heap[w.heap.size]? = some (.cells (byts (List.replicate n 0)).toArray 5 (0, 0)) := by
  refine ⟨(Below.refl _ _).grown hg (Nat.le_refl _) (by simp), ?_⟩
  have hcells : (madeCells (Value.int .u8 0).cells (n * 1)).toList = byts (List.replicate n 0) := by
    rw [Nat.mul_one]
    exact (toList_madeCells_one (.int .u8 0) n).trans (by simp [byts])
  rw [← hcells]
  exact own_full h
theorem sgL_zero (v n : Nat) : sgL v n 0 = List.replicate n 0 := by
  unfold sgL
  refine List.ext_getElem? fun j => ?_
  by_cases h : j < n
  · simp [h]
  · simp [h]
theorem bit_test (v m : Nat) (hv : v < 1000000) : (bits .and .i64 ((v : Int) / 2 ^ m) 1 == 1) = v.testBit m := by
  have e : (v : Int) / 2 ^ m = ((v / 2 ^ m : Nat) : Int) := by simp
  have hl : v / 2 ^ m ≤ v := Nat.div_le_self _ _
  rw [e, show (1 : Int) = ((1 : Nat) : Int) from rfl, i64_and_nat _ _ (by omega) (by omega), Nat.and_one_is_mod, bit_div]
  cases v.testBit m <;> rfl
set_option maxRecDepth 4000 in
set_option maxHeartbeats 2000000 in
theorem signalOf_any (v n : Nat) (w : World) (hv : v < 1000000) (h1 : 1 ≤ n) (h12 : n ≤ 12) :
    Calls Try.prog 78 #[.int .i64 v, .int .i64 n] w fun e w' => e = .returned (.string (sgN v n)) ∧ Below w.heap.size w w' := by
  obtain ⟨i0, hi, hz0, hz1, hz2⟩ := info_parts Try.infoU8
  go_enter Try.func78, Try.ntmps78
  go_wp2_with ((at_make; refine wpList_make_full _ rfl (.tmp 7) (.tmp 7) 92 rfl w.heap.size 5 i0 (.int .u8 0) 1 Try.underlying92 hi hz0 hz1 .i64 .i64 _ _ n rfl rfl rfl rfl (by rw [hz2]; omega) (by simp only [maxLen]; omega) (Nat.le_refl _) ?_; intro w1 hown hgr; have MD := Lib.hid (made_byts hown hgr); clear hown hgr))
  go_loopw [11] (fun i wr => ∃ k : Nat, k ≤ n ∧ i = .int .i64 k ∧ wr.heap[w.heap.size]? = some (.cells (byts (sgL v n k)).toArray 5 (0, 0)) ∧ Only w.heap.size w1 wr) (fun i _ => n - (intOf i).toNat)
  case atStart => exact ⟨0, by omega, rfl, by rw [sgL_zero]; exact MD.out.2, Only.refl _ _⟩
  case round =>
    obtain ⟨k, hk, rfl, hh1, hh2⟩ := hrel
    have F1 := Lib.hid hh1
    have O1 := Lib.hid hh2
    clear hh1 hh2
    by_cases hlt : k < n
    · have c0 : wr.cell? ⟨w.heap.size, k, none⟩ = some (.int .u8 (if k < k then noteN v n k else 0)) := by rw [blk_cell F1.out]; exact sgL_at hlt
      have f0 := blk_free F1.out k
      generalize (if k < k then noteN v n k else 0) = old at c0
      have b0 : (0 : Int) ≤ (k : Int) := by omega
      have b1 : (k : Int) < (n : Int) := by omega
      have hbt := bit_test v (n - 1 - k) hv
      have F2 := blk_set F1.out k (.int .u8 46)
      have F3 := Lib.hid (blk_set F2 k (.int .u8 45))
      have f1 := blk_free F2 k
      have F2 := Lib.hid F2
      have O2 := Lib.hid (O1.out.set k (.int .u8 46))
      have O3 := Lib.hid (O2.out.set k (.int .u8 45))
      cases hb : v.testBit (n - 1 - k)
      · rw [hb] at hbt
        have HX := Lib.hid (show ((byts (sgL v n k)).toArray.setIfInBounds k (.int .u8 46)) = (byts (sgL v n (k + 1))).toArray from sgL_set _ hlt (by unfold noteN; rw [hb]; rfl))
        clear hb
        go_wp2_with fail
        go_roundw
        case rel => exact ⟨k + 1, by omega, by go_num, by rw [← HX.out]; exact F2.out, O2.out⟩
        case measure => simp [intOf]; omega
      · rw [hb] at hbt
        have HX := Lib.hid (show (((byts (sgL v n k)).toArray.setIfInBounds k (.int .u8 46)).setIfInBounds k (.int .u8 45)) = (byts (sgL v n (k + 1))).toArray by
          rw [Array.setIfInBounds_setIfInBounds]
          exact sgL_set _ hlt (by unfold noteN; rw [hb]; rfl))
        clear hb
        go_wp2_with fail
        go_roundw
        case rel => exact ⟨k + 1, by omega, by go_num, by rw [← HX.out]; exact F3.out, O3.out⟩
        case measure => simp [intOf]; omega
    · have hks : k = n := by omega
      subst hks
      have hcv := run_convert_bytes_arg (P := Try.prog) wr 92 5 Try.underlying92 Try.underlying5 w.heap.size 0 k k (sgL v k k) (by simp [sgL]) (fun i hi => by
        rw [Nat.zero_add, blk_cell F1.out, sgL_at hi]
        simp [sgL, hi]) 9 Try.underlying9
      rw [sgL_str] at hcv
      go_wp2_with fail
      go_ret
      exact ⟨rfl, MD.out.1.trans (O1.out.below (Nat.le_refl _))⟩
end Go.Proofs.Ytjongjndoaojnaa

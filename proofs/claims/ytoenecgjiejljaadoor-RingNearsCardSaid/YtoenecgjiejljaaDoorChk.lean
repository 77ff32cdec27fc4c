/-
  The walks of ring.checkDigit, CheckDigit and of the reference's sum, digits, Sum, checkDigit, CheckDigit over every slice of ints. Conditions: 'TabsR' where package ring reads its tables.
-/
import Derived.Test.YtoenecgjiejljaaDoorSum
import Derived.Test.YtoenecgjiejljaaDoorGen
import Derived.Laws.CopyOwn
namespace Go.Proofs.YtoenecgjiejljaaDoor
open Go.RowKit
set_option linter.unusedVariables false

/-- The check digit, by its definition in package ring. -/
def chkD (l : List Int) : Int := invD (sumL (l ++ [0]))
theorem dig_app {l : List Int} {d : Int} (hl : ∀ x ∈ l, Dig x) (hd : Dig d) : ∀ x ∈ l ++ [d], Dig x := by
  intro x hx
  rcases List.mem_append.1 hx with h | h
  · exact hl x h
  · rw [List.mem_singleton.1 h]; exact hd
theorem sum_last {l : List Int} {d : Int} (hl : ∀ x ∈ l, Dig x) (hd : Dig d) : sumL (l ++ [d]) = mulD d (sumA l 1) := by
  rw [sum_append hl (by intro x hx; rw [List.mem_singleton.1 hx]; exact hd)]
  simp only [sumL, List.length_nil, turnN, List.length_singleton]
  rw [one_mul' hd]
theorem dig_zero : Dig 0 := ⟨by decide, by decide⟩
theorem inv_inv_fin : ∀ x : Fin 10, invD (invD x.val) = x.val := by decide +kernel
theorem inv_inv {x : Int} (hx : Dig x) : invD (invD x) = x := by obtain ⟨i, rfl⟩ := hx.fin; exact inv_inv_fin i
theorem inv_eq_fin : ∀ x y : Fin 10, (mulD x.val y.val = 0 ↔ (x.val : Int) = invD y.val) := by decide +kernel
theorem chk_iff {l : List Int} {d : Int} (hl : ∀ x ∈ l, Dig x) (hd : Dig d) : sumL (l ++ [d]) = 0 ↔ d = chkD l := by
  have hA := dig_sumA hl 1
  rw [sum_last hl hd, chkD, sum_last hl dig_zero, one_mul' hA]
  obtain ⟨i, rfl⟩ := hd.fin
  obtain ⟨j, hj⟩ := hA.fin
  rw [hj]
  exact inv_eq_fin i j
theorem dig_chk {l : List Int} (hl : ∀ x ∈ l, Dig x) : Dig (chkD l) := dig_inv (dig_sum (dig_app hl dig_zero))

theorem sum_n (A : Option Addr) (n c : Nat) (l : List Int) (w : World) (hlen : l.length = n) (hr : Rd w w.heap.size A (ints l)) (hl : ∀ x ∈ l, Dig x) (hn : n ≤ 1000) (ht : TabsR w) :
    Calls Tryd.prog 55 #[.slice A n c] w fun e w' => e = .returned (.int .i64 (sumL l)) ∧ ∃ n, w' = w.drewN n := by
  subst hlen
  exact sum_ok A c l w hr hl hn ht

theorem Tryd.infoInt : (Tryd.prog.info? 3).map (fun i => (i.zero, i.size, i.bytes)) = some (some (.int .i64 0), 1, 8) := by kernel_rfl
theorem Tryd.sizeInt : (Tryd.prog.info? 3).map (·.size) = some 1 := by kernel_rfl
theorem made_ints {w w1 : World} {n : Nat} (h : w1.ownsRow w.heap.size 3 1 (.slice (some ⟨w.heap.size, 0, none⟩) n n) n (madeCells (Value.int .i64 0).cells (n * 1)).toList) (hg : w.grownBy w1 none) :
    Below w.heap.size w w1 ∧ w1.heap[w.heap.size]? = some (.cells (ints (List.replicate n 0)).toArray 3 (0, 0)) := by
  refine ⟨(Below.refl _ _).grown hg (Nat.le_refl _) (by simp), ?_⟩
  have hcells : (madeCells (Value.int .i64 0).cells (n * 1)).toList = ints (List.replicate n 0) := by
    rw [Nat.mul_one]
    exact (toList_madeCells_one (.int .i64 0) n).trans (by simp [ints])
  rw [← hcells]
  exact own_full h
theorem checkDigit_ok (A : Option Addr) (c : Nat) (l : List Int) (w : World) (hr : Rd w w.heap.size A (ints l)) (hl : ∀ x ∈ l, Dig x) (hn : l.length ≤ 900) (ht : TabsR w) :
    Calls Tryd.prog 62 #[.slice A l.length c] w fun e w' => e = .returned (.int .i64 (chkD l)) ∧ Below w.heap.size w w' := by
  have HT := Lib.hid ht
  have HR := Lib.hid hr
  have HL := Lib.hid hl
  clear ht hr hl
  obtain ⟨i0, hi, hz0, hz1, hz2⟩ := info_parts Tryd.infoInt
  go_enter Tryd.func62, Tryd.ntmps62
  go_wp2_with (first
    | (at_make; refine wpList_make_full _ rfl (.tmp 6) (.tmp 6) 53 rfl w.heap.size 3 i0 (.int .i64 0) 1 Tryd.underlying53 hi hz0 hz1 .i64 .i64 _ _ (l.length + 1) rfl rfl (by omega) (by omega) (by rw [hz2]; omega) (by simp only [maxLen]; omega) (Nat.le_refl _) ?_; intro w1 hown1 hg1; have F := Lib.hid (made_ints hown1 hg1); clear hown1 hg1)
    | ((with_reducible show wpList _ _ _ (⟨some 10, _, _, _, _, _⟩ :: _) _ _); go_loud (refine wpList_copy_splice rfl (.tmp 8) (.tmp 9) 53 53 rfl 3 Tryd.underlying53 Tryd.sizeInt _ _ _ _ _ _ rfl rfl w.heap.size 0 (ints (List.replicate (l.length + 1) 0)) 3 F.out.2 (ints l) (by simp [ints]) (copy_from (HR.out.below F.out.1 (Nat.le_refl _))) (by simp [ints]) (ints_one _) w.heap.size w F.out.1 (Nat.le_refl _) ?_); intro w2 hg2 hb2; have HB2 := Lib.hid hb2; clear hb2))
  have hsp : splice (ints (List.replicate (l.length + 1) 0)) 0 (ints l) = ints (l ++ [0]) := by
    simp [splice, ints]
  rw [hsp] at hg2
  clear hsp
  go_wp2_with fail
  refine (sum_n _ _ _ (l ++ [0]) w2 (by simp) (Rd.of_block hg2.out) (dig_app HL.out dig_zero) (by omega) (HT.out.below' HB2.out)).mono ?_
  rintro e w' ⟨rfl, m, rfl⟩
  go_wp2_with fail
  refine (undo_ok _ _ (dig_sum (dig_app HL.out dig_zero)) ((HT.out.below' HB2.out).drewN m)).mono ?_
  rintro e w' ⟨rfl, rfl⟩
  go_wp2_with fail
  go_ret
  exact ⟨rfl, below_drewN HB2.out m⟩
end Go.Proofs.YtoenecgjiejljaaDoor

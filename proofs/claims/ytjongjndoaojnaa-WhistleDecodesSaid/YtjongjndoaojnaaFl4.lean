/-
  Lengths: the walk of fillOf. Condition: the lengths are right and can be read.
-/
import Derived.Test.YtjongjndoaojnaaFl3
import Derived.Laws.BitsAllLaws
namespace Go.Proofs.Ytjongjndoaojnaa
open Go.RowKit
set_option linter.unusedVariables false

theorem fil_next {L : List Int} {k : Nat} {d : Int} (hd : L[k]? = some d) : fil (L.take (k + 1)) = fil (L.take k) + 2 ^ (12 - d.toNat) := by
  unfold fil
  rw [List.take_add_one, hd]
  simp
theorem fil_le {L : List Int} (h : ∀ x ∈ L, 1 ≤ x ∧ x ≤ 12) : fil L ≤ L.length * 2048 := by
  induction L with
  | nil => simp [fil]
  | cons x r ih =>
    have h1 := ih fun y hy => h y (List.mem_cons_of_mem _ hy)
    have h2 := (h x (List.mem_cons_self ..)).1
    have h3 : 2 ^ (12 - x.toNat) ≤ 2 ^ 11 := Nat.pow_le_pow_right (by decide) (by omega)
    unfold fil at h1 ⊢
    rw [List.map_cons, List.sum_cons, List.length_cons]
    omega
theorem two_shr (d : Nat) (h : d ≤ 12) : 4096 / 2 ^ d = 2 ^ (12 - d) := by
  rw [show 4096 = 2 ^ (12 - d) * 2 ^ d by rw [← Nat.pow_add, Nat.sub_add_cancel h]]
  exact Nat.mul_div_cancel _ (Nat.pow_pos (by decide))
theorem wrap_add {a : Nat} {d : Int} (ha : a ≤ 100000) (h1 : 1 ≤ d) (h2 : d ≤ 12) : wrap64 ((a : Int) + 4096 / 2 ^ d.toNat) = ((a + 2 ^ (12 - d.toNat) : Nat) : Int) := by
  have e1 := two_shr d.toNat (by omega)
  have e2 : (4096 : Int) / 2 ^ d.toNat = ((4096 / 2 ^ d.toNat : Nat) : Int) := by simp
  have e3 : 2 ^ (12 - d.toNat) ≤ 2 ^ 12 := Nat.pow_le_pow_right (by decide) (by omega)
  rw [e2, e1]
  generalize 2 ^ (12 - d.toNat) = m at *
  unfold wrap64
  omega
theorem fil_take {L : List Int} (h : ∀ x ∈ L, 1 ≤ x ∧ x ≤ 12) (hl : L.length ≤ 12) (k : Nat) : fil (L.take k) ≤ 24576 := by
  have h1 := fil_le (L := L.take k) fun x hx => h x (List.mem_of_mem_take hx)
  have h2 : (L.take k).length ≤ 12 := by rw [List.length_take]; omega
  omega
theorem red_even {n a : Nat} (h : a % 2 = 0) : red (n + 1) a = red n (a / 2) := by
  rw [red, if_pos h]
theorem red_odd {n a : Nat} (h : ¬ a % 2 = 0) : red (n + 1) a = (a, 2 ^ (n + 1)) := by
  rw [red, if_neg h]
def denOf (fb : Nat) (w : World) : Nat := match w.cell? ⟨fb, 1, none⟩ with | some v => (intOf v).toNat | none => 0
theorem denOf_eq {fb : Nat} {w : World} {a b : Int} {t : TypeId} (h : w.heap[fb]? = some (.cells #[.int .i64 a, .int .i64 b] t (0, 0))) : denOf fb w = b.toNat := by
  unfold denOf
  rw [blk_cell h]
  rfl
theorem Try.sizeRat : (Try.prog.info? 44).map (·.size) = some 2 := by kernel_rfl
set_option maxRecDepth 4000 in
set_option maxHeartbeats 2000000 in
theorem fillOf_any (A : Option Addr) (c : Nat) (L : List Int) (w : World) (hr : Rd w w.heap.size A (ints L)) (hv : lenB L = true) :
    Calls Try.prog 69 #[.slice A L.length c] w fun e w' => e = .returned (.agg #[.int .i64 ((red 12 (fil L)).1 : Nat), .int .i64 ((red 12 (fil L)).2 : Nat)]) ∧ Below w.heap.size w w' := by
  obtain ⟨h1, h12, hall⟩ := lenB_iff hv
  have HL := Lib.hid hall
  have HR := Lib.hid hr
  clear hr hv hall h1
  obtain ⟨W1, hW1, hg1, hs1, hb1⟩ := one_blk w #[.int .i64 0, .int .i64 0] 44
  obtain ⟨W, hW, hg2, hs2, hb2⟩ := one_blk W1 #[.int .i64 0, .int .i64 4096] 44
  have hz : W1.heap.size = w.heap.size + 1 := by rw [← hW1]; simp
  obtain ⟨fb, hfb⟩ : ∃ x, x = w.heap.size + 1 := ⟨_, rfl⟩
  rw [hz, ← hfb] at hg2 hs2
  rw [hz] at hb2
  have F0 := Lib.hid hg2
  have R0 := Lib.hid ((hb2.block _ (Nat.lt_succ_self _)).trans hg1)
  have BW := Lib.hid (hb1.trans (hb2.mono (Nat.le_succ _)))
  have HZ := Lib.hid (And.intro hfb hs2)
  have HW := Lib.hid (show (w.alloc (.cells #[.int .i64 0, .int .i64 0] 44)).alloc (.cells #[.int .i64 0, .int .i64 4096] 44) = W by rw [hW1, hW])
  clear hW1 hg1 hs1 hb1 hW hg2 hs2 hb2 hz
  go_enter Try.func69, Try.ntmps69
  go_wp2_with fail
  rw [HW.out, ← hfb]
  clear hfb W1
  go_loopw [9] (fun i wr => ∃ k : Nat, k ≤ L.length ∧ i = .int .i64 k ∧ wr.heap[fb]? = some (.cells #[.int .i64 (fil (L.take k) : Nat), .int .i64 4096] 44 (0, 0)) ∧ Only fb W wr) (fun i _ => L.length - (intOf i).toNat)
  case atStart => exact ⟨0, by omega, rfl, F0.out, Only.refl _ _⟩
  case round =>
    obtain ⟨k, hk, rfl, h1, h2⟩ := hrel
    have F1 := Lib.hid h1
    have O1 := Lib.hid h2
    clear h1 h2
    by_cases hlt : k < L.length
    · obtain ⟨b0, o0, d, rfl, hd, hc⟩ := (O1.out.rd (HR.out.below BW.out (Nat.le_refl _)) fun b o hA => by
        obtain ⟨b1, o1, ha1, hb1, _⟩ := HR.out.at_ (ints_at (List.getElem?_eq_getElem (show 0 < L.length by omega)))
        rw [ha1] at hA
        injection hA with hA
        injection hA with hA1
        have := HZ.out.1
        omega).int k hlt
      have hd12 := HL.out d (List.mem_of_getElem? hd.out)
      have HN := Lib.hid (fil_next hd.out)
      have c0 := (blk_cell (j := 0) F1.out).trans (show _ = some _ from rfl)
      have c1 := (blk_cell (j := 1) F1.out).trans (show _ = some _ from rfl)
      have f0 := blk_free F1.out 0
      have ha := fil_take HL.out h12 k
      generalize fil (L.take k) = a at *
      have HWR := Lib.hid (wrap_add (a := a) (d := d) (by omega) hd12.1 hd12.2)
      have FS := Lib.hid (blk_set F1.out 0 (.int .i64 ((a + 2 ^ (12 - d.toNat) : Nat) : Int)))
      have OS := Lib.hid (O1.out.set 0 (.int .i64 ((a + 2 ^ (12 - d.toNat) : Nat) : Int)))
      go_wp2_with fail
      go_region
      rw [HWR.out]
      go_wp2_with fail
      go_roundw
      case rel => exact ⟨k + 1, by omega, by go_num, by rw [HN.out]; exact FS.out, OS.out⟩
      case measure => simp [intOf]; omega
    · have hks : k = L.length := by omega
      subst hks
      rw [List.take_length] at F1
      have ha := fil_take HL.out h12 L.length
      rw [List.take_length] at ha
      have O0 := Lib.hid O1.out
      go_wp2_with fail
      go_loopw [] (fun wr => ∃ n a : Nat, n ≤ 12 ∧ a ≤ 24576 ∧ red n a = red 12 (fil L) ∧ wr.heap[fb]? = some (.cells #[.int .i64 (a : Int), .int .i64 ((2 ^ n : Nat) : Int)] 44 (0, 0)) ∧ Only fb W wr) (fun wr => denOf fb wr)
      case atStart => exact ⟨12, _, Nat.le_refl _, ha, rfl, F1.out, O0.out⟩
      case round =>
        obtain ⟨n, a, hn, ha2, hred, h1, h2⟩ := hrel
        have F2 := Lib.hid h1
        have O2 := Lib.hid h2
        have RE := Lib.hid hred
        clear h1 h2 hred
        cases n with
        | zero =>
          have c0 := (blk_cell (j := 0) F2.out).trans (show _ = some _ from rfl)
          have c1 := (blk_cell (j := 1) F2.out).trans (show _ = some (.int .i64 1) from rfl)
          have RB := (O2.out.2.2.2.2 w.heap.size (by have := HZ.out.1; omega)).trans R0.out
          have d0 := (blk_cell (j := 0) RB).trans (show _ = some (.int .i64 0) from rfl)
          have g0 := blk_free RB 0
          have RB1 := blk_set RB 0 (.int .i64 (a : Int))
          have d1 := (blk_cell (j := 1) RB1).trans (show _ = some (.int .i64 0) from rfl)
          have g1 := blk_free RB1 1
          have RB2 := Lib.hid (blk_set RB1 1 (.int .i64 (1 : Int)))
          have BZ := Lib.hid (((BW.out.trans (O2.out.below (by have := HZ.out.1; omega))).grown ((grown_setC wr w.heap.size 0 (.int .i64 (a : Int))).trans (grown_setC _ w.heap.size 1 (.int .i64 (1 : Int)))) (by rw [O2.out.2.2.2.1]; have := HZ.out; omega) fun q hq => by injection hq with hq; omega))
          clear RB RB1
          go_wp2_with fail
          (try simp only [Exit.inBlock, Exit.then])
          refine bodyPost_ret (v := .agg #[.int .i64 (a : Int), .int .i64 (1 : Int)]) (results_cell_row rfl _ _ w.heap.size 44 _ _ _ rfl RB2.out Try.underlying44 rfl Try.sizeRat) rfl ⟨?_, BZ.out⟩
          rw [← RE.out]; rfl
        | succ n =>
          have hb : 2 ^ (n + 1) ≤ 2 ^ 12 := Nat.pow_le_pow_right (by decide) hn
          have hb0 : 0 < 2 ^ n := Nat.pow_pos (by decide)
          have hb2 : 2 ^ (n + 1) = 2 * 2 ^ n := by rw [Nat.pow_succ, Nat.mul_comm]
          have HB := Lib.hid (show 2 ^ (n + 1) / 2 = 2 ^ n by omega)
          have HRE := Lib.hid (fun h => red_even (n := n) (a := a) h)
          have HRO := Lib.hid (fun h => red_odd (n := n) (a := a) h)
          obtain ⟨b, hbb⟩ : ∃ b, b = 2 ^ (n + 1) := ⟨_, rfl⟩
          have HBB := Lib.hid hbb
          rw [← hbb] at F2 hb HB hb2
          have c0 := (blk_cell (j := 0) F2.out).trans (show _ = some _ from rfl)
          have c1 := (blk_cell (j := 1) F2.out).trans (show _ = some _ from rfl)
          have e1 : decide ((1 : Int) < (b : Int)) = true := by simp; omega
          have e2 : decide (1 < b) = true := by simp; omega
          clear hbb hb2 hb0
          by_cases hev : a % 2 = 0
          · have e3 : ((a : Int) % 2 == 0) = true := by simp; omega
            have e4 : (a % 2 == 0) = true := by simpa using hev
            have f0 := blk_free F2.out 0
            have F3 := blk_set F2.out 0 (.int .i64 ((a : Int) / 2))
            have c2 := (blk_cell (j := 1) F3).trans (show _ = some (.int .i64 (b : Int)) from rfl)
            have f1 := blk_free F3 1
            have F4 := Lib.hid (blk_set F3 1 (.int .i64 ((b : Int) / 2)))
            have O4 := Lib.hid ((O2.out.set 0 (.int .i64 ((a : Int) / 2))).set 1 (.int .i64 ((b : Int) / 2)))
            clear F3
            go_wp2_with fail
            go_roundw
            case rel => exact ⟨n, a / 2, by omega, by omega, by rw [← HRE.out hev]; exact RE.out, by
              rw [F4.out, ← HB.out, show ((a / 2 : Nat) : Int) = (a : Int) / 2 by omega, show ((b / 2 : Nat) : Int) = (b : Int) / 2 by omega]; rfl, O4.out⟩
            case measure =>
              rw [denOf_eq (a := (a : Int) / 2) (b := (b : Int) / 2) (F4.out.trans rfl), denOf_eq F2.out]
              have : 1 < b := of_decide_eq_true e2
              omega
          · have e3 : ((a : Int) % 2 == 0) = false := by simp; omega
            have e4 : (a % 2 == 0) = false := by simpa using hev
            have RB := (O2.out.2.2.2.2 w.heap.size (by have := HZ.out.1; omega)).trans R0.out
            have d0 := (blk_cell (j := 0) RB).trans (show _ = some (.int .i64 0) from rfl)
            have g0 := blk_free RB 0
            have RB1 := blk_set RB 0 (.int .i64 (a : Int))
            have d1 := (blk_cell (j := 1) RB1).trans (show _ = some (.int .i64 0) from rfl)
            have g1 := blk_free RB1 1
            have RB2 := Lib.hid (blk_set RB1 1 (.int .i64 (b : Int)))
            have BZ := Lib.hid (((BW.out.trans (O2.out.below (by have := HZ.out.1; omega))).grown ((grown_setC wr w.heap.size 0 (.int .i64 (a : Int))).trans (grown_setC _ w.heap.size 1 (.int .i64 (b : Int)))) (by rw [O2.out.2.2.2.1]; have := HZ.out; omega) fun q hq => by injection hq with hq; omega))
            clear RB RB1
            go_wp2_with fail
            (try simp only [Exit.inBlock, Exit.then])
            refine bodyPost_ret (v := .agg #[.int .i64 (a : Int), .int .i64 (b : Int)]) (results_cell_row rfl _ _ w.heap.size 44 _ _ _ rfl RB2.out Try.underlying44 rfl Try.sizeRat) rfl ⟨?_, BZ.out⟩
            rw [← RE.out, HRO.out hev, HBB.out]
end Go.Proofs.Ytjongjndoaojnaa

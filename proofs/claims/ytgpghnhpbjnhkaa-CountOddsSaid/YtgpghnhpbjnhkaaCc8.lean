/-
  Odds of the reference: the walk. Every argument.
-/
import Derived.Test.YtgpghnhpbjnhkaaCc6
import Derived.Test.YtgpghnhpbjnhkaaCc7
namespace Go.Proofs.Ytgpghnhpbjnhkaa
open Go.RowKit
set_option linter.unusedVariables false

theorem wrapI_div {n g : Nat} (h : n ≤ 9223372036854775807) : IntKind.i64.wrap ((n : Int) / (g : Int)) = ((n / g : Nat) : Int) := by
  have h1 := Nat.div_le_self n g
  rw [show (n : Int) / (g : Int) = ((n / g : Nat) : Int) from rfl]
  generalize n / g = x at *
  exact wrap_nn (by omega) (by omega)
theorem wrapI_mul {u v : Nat} (h : u * v ≤ 3600) : IntKind.i64.wrap ((u : Int) * (v : Int)) = ((u * v : Nat) : Int) := by
  rw [← Int.natCast_mul]
  generalize u * v = x at *
  exact wrap_nn (by omega) (by omega)
theorem wrap64_mul {u v : Nat} (h : u * v ≤ 3600) : wrap64 ((u : Int) * (v : Int)) = ((u * v : Nat) : Int) := by
  rw [← Int.natCast_mul]
  generalize u * v = x at *
  unfold wrap64
  omega
theorem cell_off {W : World} {g i b j : Nat} {v u : Value} (h : W.cell? ⟨b, j, none⟩ = some u) (hne : b ≠ g) : (W.setCell ⟨g, i, none⟩ v).cell? ⟨b, j, none⟩ = some u := by
  rw [← h]
  simp [World.cell?, World.setCell, Array.getElem?_modify, Ne.symm hne]
theorem od_quo {b m c a : Nat} (hm : m ≤ b) (hc : c ≤ b) (h1 : a ≤ c) (h2 : a ≤ m) (h3 : m + c ≤ b + a) : quo (chN (b + 1) m c a) (chN b m c a) = fr ((b + 1 - m) * (b + 1 - c)) ((b + 1) * (b + 1 + a - m - c)) := by
  unfold chN
  rw [wN_fit (show m ≤ b + 1 by omega) (show c ≤ b + 1 by omega), wN_fit hm hc]
  exact quo_eq (ch_pos (by omega)) (ch_pos hc) (wy_pos h1 h2 h3) (Nat.mul_pos (by omega) (by omega)) (wy_next hm hc h1 (by omega))
theorem quo_cop {x y : Nat × Nat} {n d : Nat} (hd : 0 < d) (h : quo x y = fr n d) : fr (quo x y).1 (quo x y).2 = quo x y := by
  rw [h]
  exact fr_of_cop (fr_cop hd)
set_option maxRecDepth 4000 in
set_option maxHeartbeats 4000000 in
theorem rOdds_any (b m c a : Int) (w : World) : Calls Try.prog 28 #[.int .i64 b, .int .i64 m, .int .i64 c, .int .i64 a] w fun e w' => e = .returned (.tuple #[ratV (odV b m c a), .int .i64 (odE b m c a)]) ∧ Below w.heap.size w w' := by
  obtain ⟨W, hW, hg, hz, hB⟩ := rat0 w
  have HW := Lib.hid hW
  have HAA := Lib.hid (birds4 b m c a W)
  clear hW
  cases hv : allB [b, m, c, a]
  · rw [hv] at HAA
    have HE := Lib.hid (show odE b m c a = 1 by unfold odE; rw [hv]; rfl)
    have HV := Lib.hid (show odV b m c a = (0, 0) from if_neg (by rw [HE.out]; decide))
    clear hv
    go_enter Try.func28, Try.ntmps28
    go_wp2_with fail
    rw [HW.out, ← hz]
    refine HAA.out.mono ?_
    rintro e w1 ⟨rfl, hb1⟩
    have hB1 := hB.trans (hb1.mono hB.size)
    have hg1 := (hb1.block w.heap.size (by omega)).trans hg
    have hz1 : w.heap.size < w1.heap.size := by have := hb1.size; omega
    obtain ⟨d0, f0, d1, f1, HR⟩ := put2 hg1 (.int .i64 0) (.int .i64 0)
    have BZ := Lib.hid (put2_below (W := w1) (g := w.heap.size) (.int .i64 0) (.int .i64 0) hB1 (Nat.le_refl _) (hB1).size)
    clear hg hz hB hb1 hg1 hB1 hz1
    go_wp2_with fail
    (try simp only [Exit.inBlock, Exit.then])
    refine bodyPost_ret (v := .tuple #[.agg #[.int .i64 0, .int .i64 0], .int .i64 1]) (results_row_tmp (p := 8) (u := 9) rfl _ _ w.heap.size 31 _ _ _ rfl HR.out Try.underlying31 rfl sizeRat) rfl ⟨?_, BZ.out⟩
    rw [HV.out, HE.out]; rfl
  · rw [hv] at HAA
    obtain ⟨⟨bb0, bb1⟩, ⟨mm0, mm1⟩, ⟨cc0, cc1⟩, aa0, aa1⟩ := allB4 hv
    have HE0 := Lib.hid (show odE b m c a = if b - 1 < m ∨ b - 1 < c then 8 else if wN (b - 1).toNat m.toNat c.toNat a.toNat = 0 then 10 else 0 by unfold odE; rw [hv]; rfl)
    cases e1 : decide (b - 1 < m)
    · cases e2 : decide (b - 1 < c)
      · have k1 := of_decide_eq_false e1
        have k2 := of_decide_eq_false e2
        have hce1 : chE b m c a = 0 := by unfold chE; rw [hv]; exact (if_pos rfl).trans (if_neg (by omega))
        have hce2 : chE (b - 1) m c a = 0 := by unfold chE; rw [show allB [b - 1, m, c, a] = true from allB4_iff.2 ⟨by omega, ⟨mm0, mm1⟩, ⟨cc0, cc1⟩, aa0, aa1⟩]; exact (if_pos rfl).trans (if_neg (by omega))
        have HC1 := Lib.hid (fun w => rChance_any b m c a w)
        have HC2 := Lib.hid (fun w => rChance_any (b - 1) m c a w)
        rw [hce1] at HC1
        rw [hce2] at HC2
        have hx : chV b m c a = chN b.toNat m.toNat c.toNat a.toNat := if_pos hce1
        have hy : chV (b - 1) m c a = chN (b - 1).toNat m.toNat c.toNat a.toNat := if_pos hce2
        have hy0 : (chV (b - 1) m c a).1 = 0 ↔ wN (b - 1).toNat m.toNat c.toNat a.toNat = 0 := by
          rw [hy]
          unfold chN
          constructor
          · intro h
            rcases Nat.eq_zero_or_pos (wN (b - 1).toNat m.toNat c.toNat a.toNat) with h0 | h0
            · exact h0
            · have := fr_num (d := ch (b - 1).toNat c.toNat) h0; omega
          · exact fr_num0
        by_cases hw0 : wN (b - 1).toNat m.toNat c.toNat a.toNat = 0
        · have HE := Lib.hid (show odE b m c a = 10 by rw [HE0.out, if_neg (by omega), if_pos hw0])
          have HV := Lib.hid (show odV b m c a = (0, 0) from if_neg (by rw [HE.out]; decide))
          have hyz := hy0.2 hw0
          generalize chV b m c a = x at *
          generalize chV (b - 1) m c a = y at *
          obtain ⟨x1, x2⟩ := x
          obtain ⟨y1, y2⟩ := y
          simp only at hyz
          have ey1 : ((y1 : Int) == 0) = true := by simp [hyz]
          have ey2 : (y1 == 0) = true := by simp [hyz]
          clear hyz
          unfold ratV at HC1 HC2
          clear hw0 hy0 k1 k2 hx hy hce1 hce2 hv
          go_enter Try.func28, Try.ntmps28
          go_wp2_with fail
          rw [HW.out, ← hz]
          refine HAA.out.mono ?_
          rintro e w1 ⟨rfl, hb1⟩
          have hB1 := hB.trans (hb1.mono hB.size)
          have hg1 := (hb1.block w.heap.size (by omega)).trans hg
          have hz1 : w.heap.size < w1.heap.size := by have := hb1.size; omega
          have HG1 := Lib.hid hg1
          have HB1 := Lib.hid hB1
          clear hg hz hB hb1 hg1 hB1 hz1
          go_wp2_with fail
          refine (HC1.out w1).mono ?_
          rintro e w2 ⟨rfl, hb2⟩
          have HG2 := Lib.hid (blk_up (o := .cells #[.int .i64 (x1 : Int), .int .i64 (x2 : Int)] 31) ((hb2.block w.heap.size (lt_of_blk HG1.out)).trans HG1.out))
          have b2 := HB1.out.trans (hb2.mono HB1.out.size)
          have HB2 := Lib.hid (b2.alloc b2.size (.cells #[.int .i64 (x1 : Int), .int .i64 (x2 : Int)] 31))
          clear hb2 b2
          go_wp2_with fail
          refine (HC2.out _).mono ?_
          rintro e w3 ⟨rfl, hb3⟩
          have hg3 := blk_up (o := .cells #[.int .i64 (y1 : Int), .int .i64 (y2 : Int)] 31) ((hb3.block w.heap.size (lt_of_blk HG2.out)).trans HG2.out)
          have b3 := HB2.out.trans (hb3.mono HB2.out.size)
          have hB3 := b3.alloc b3.size (.cells #[.int .i64 (y1 : Int), .int .i64 (y2 : Int)] 31)
          have hgy := heap_alloc_new w3 (.cells #[.int .i64 (y1 : Int), .int .i64 (y2 : Int)] 31)
          have y0 := (blk_cell (j := 0) hgy).trans (show _ = some (.int .i64 (y1 : Int)) from rfl)
          obtain ⟨d0, f0, d1, f1, HR⟩ := put2 hg3 (.int .i64 0) (.int .i64 0)
          have BZ := Lib.hid (put2_below (W := (w3.alloc (.cells #[.int .i64 (y1 : Int), .int .i64 (y2 : Int)] 31))) (g := w.heap.size) (.int .i64 0) (.int .i64 0) hB3 (Nat.le_refl _) (hB3).size)
          clear b3 hb3 hg3 hB3 hgy
          go_wp2_with fail
          (try simp only [Exit.inBlock, Exit.then])
          refine bodyPost_ret (v := .tuple #[.agg #[.int .i64 0, .int .i64 0], .int .i64 10]) (results_row_tmp (p := 8) (u := 9) rfl _ _ w.heap.size 31 _ _ _ rfl HR.out Try.underlying31 rfl sizeRat) rfl ⟨?_, BZ.out⟩
          rw [HV.out, HE.out]; rfl
        · have HE := Lib.hid (show odE b m c a = 0 by rw [HE0.out, if_neg (by omega), if_neg hw0])
          have HV := Lib.hid (show odV b m c a = fr ((b - m) * (b - c)).toNat (b * (b - m - c + a)).toNat from if_pos HE.out)
          obtain ⟨_, _, _, j1, j2, j3, _⟩ := odE_ok HE.out
          obtain ⟨⟨n1, n2⟩, n3, n4⟩ := od_bounds ⟨bb0, bb1⟩ mm0 cc0 (by omega) (by omega) j3 j2 j1
          have hyn : (chV (b - 1) m c a).1 ≠ 0 := fun h => hw0 (hy0.1 h)
          have hq : quo (chV b m c a) (chV (b - 1) m c a) = fr ((b - m) * (b - c)).toNat (b * (b - m - c + a)).toNat := by
            obtain ⟨B, hB'⟩ : ∃ B : Nat, b - 1 = B := ⟨(b - 1).toNat, by omega⟩
            obtain ⟨M, hM'⟩ : ∃ M : Nat, m = M := ⟨m.toNat, by omega⟩
            obtain ⟨C, hC'⟩ : ∃ C : Nat, c = C := ⟨c.toNat, by omega⟩
            obtain ⟨D, hD'⟩ : ∃ D : Nat, a = D := ⟨a.toNat, by omega⟩
            have e0 := od_quo (b := B) (m := M) (c := C) (a := D) (by omega) (by omega) (by omega) (by omega) (by omega)
            have e1 : ((b - m) * (b - c)).toNat = (B + 1 - M) * (B + 1 - C) := by
              rw [show b - m = ((B + 1 - M : Nat) : Int) by omega, show b - c = ((B + 1 - C : Nat) : Int) by omega, ← Int.natCast_mul, Int.toNat_natCast]
            have e2 : (b * (b - m - c + a)).toNat = (B + 1) * (B + 1 + D - M - C) := by
              rw [show b - m - c + a = ((B + 1 + D - M - C : Nat) : Int) by omega, show b = ((B + 1 : Nat) : Int) by omega, ← Int.natCast_mul, Int.toNat_natCast]
            rw [hx, hy, e1, e2, show b.toNat = B + 1 by omega, show (b - 1).toNat = B by omega, show m.toNat = M by omega, show c.toNat = C by omega, show a.toNat = D by omega]
            exact e0
          have hqc := quo_cop (by omega) hq
          have hql := fr_le ((b - m) * (b - c)).toNat (b * (b - m - c + a)).toNat
          have hqp := fr_pos (n := ((b - m) * (b - c)).toNat) (d := (b * (b - m - c + a)).toNat) (by omega)
          rw [← hq] at hql hqp HV
          have hxl : (chV b m c a).1 ≤ 118264581564861424 ∧ (chV b m c a).2 ≤ 118264581564861424 ∧ 0 < (chV b m c a).2 := by
            rw [hx]
            have := fr_le (wN b.toNat m.toNat c.toNat a.toNat) (ch b.toNat c.toNat)
            have := wN_le (b := b.toNat) (m := m.toNat) (c := c.toNat) (a := a.toNat) (by omega)
            have := ch_small (n := b.toNat) (by omega) c.toNat
            have := fr_pos (n := wN b.toNat m.toNat c.toNat a.toNat) (d := ch b.toNat c.toNat) (ch_pos (by omega))
            unfold chN
            omega
          have hyl : (chV (b - 1) m c a).1 ≤ 118264581564861424 ∧ (chV (b - 1) m c a).2 ≤ 118264581564861424 ∧ 0 < (chV (b - 1) m c a).2 := by
            rw [hy]
            have := fr_le (wN (b - 1).toNat m.toNat c.toNat a.toNat) (ch (b - 1).toNat c.toNat)
            have := wN_le (b := (b - 1).toNat) (m := m.toNat) (c := c.toNat) (a := a.toNat) (by omega)
            have := ch_small (n := (b - 1).toNat) (by omega) c.toNat
            have := fr_pos (n := wN (b - 1).toNat m.toNat c.toNat a.toNat) (d := ch (b - 1).toNat c.toNat) (ch_pos (by omega))
            unfold chN
            omega
          clear hw0 hy0 k1 k2 hx hy hce1 hce2 hv hq j1 j2 j3
          generalize chV b m c a = x at *
          generalize chV (b - 1) m c a = y at *
          obtain ⟨x1, x2⟩ := x
          obtain ⟨y1, y2⟩ := y
          simp only at hyn hxl hyl
          unfold quo at hqc hql hqp HV
          simp only at hqc hql hqp HV
          unfold ratV at HC1 HC2
          have HG1' := Lib.hid (fun w => gcd_any x1 y1 (by omega) (by omega) w)
          have HG2' := Lib.hid (fun w => gcd_any x2 y2 (by omega) (by omega) w)
          have g1p : 0 < Nat.gcd x1 y1 := Nat.gcd_pos_of_pos_right _ (by omega)
          have g2p : 0 < Nat.gcd x2 y2 := Nat.gcd_pos_of_pos_right _ (by omega)
          have z1 : x1 / Nat.gcd x1 y1 ≤ 118264581564861424 := Nat.le_trans (Nat.div_le_self _ _) hxl.1
          have z2 : y2 / Nat.gcd x2 y2 ≤ 118264581564861424 := Nat.le_trans (Nat.div_le_self _ _) hyl.2.1
          have z3 : x2 / Nat.gcd x2 y2 ≤ 118264581564861424 := Nat.le_trans (Nat.div_le_self _ _) hxl.2.1
          have z4 : y1 / Nat.gcd x1 y1 ≤ 118264581564861424 := Nat.le_trans (Nat.div_le_self _ _) hyl.1
          generalize Nat.gcd x1 y1 = g at *
          generalize Nat.gcd x2 y2 = h at *
          have hpn : x1 / g * (y2 / h) ≤ 3600 := by omega
          have hqn : x2 / h * (y1 / g) ≤ 3600 := by omega
          have HF := Lib.hid (fun w => Ratio_any (x1 / g * (y2 / h)) (x2 / h * (y1 / g)) (by omega) (by omega) hqp w)
          rw [hqc] at HF
          have M1 := Lib.hid (Int.natCast_mul (x1 / g) (y2 / h))
          have M2 := Lib.hid (Int.natCast_mul (x2 / h) (y1 / g))
          have hyn' : ((y1 : Int) == 0) = false := by simpa using hyn
          have hyn'' : (y1 == 0) = false := by simpa using hyn
          have ne1 : (g : Int) ≠ 0 := by omega
          have ne2 : (h : Int) ≠ 0 := by omega
          have ge1 : ((g : Int) == 0) = false := by simpa using ne1
          have ge2 : ((h : Int) == 0) = false := by simpa using ne2
          have HXL := Lib.hid hxl
          have HYL := Lib.hid hyl
          have L1 := Lib.hid (And.intro hpn hqn)
          have L2 := Lib.hid (And.intro (And.intro z1 z2) (And.intro z3 z4))
          clear hql hqp hqc hyn hpn hqn z1 z2 z3 z4 n1 n2 n3 n4
          go_enter Try.func28, Try.ntmps28
          go_wp2_with fail
          rw [HW.out, ← hz]
          refine HAA.out.mono ?_
          rintro e w1 ⟨rfl, hb1⟩
          have hB1 := hB.trans (hb1.mono hB.size)
          have hg1 := (hb1.block w.heap.size (by omega)).trans hg
          have hz1 : w.heap.size < w1.heap.size := by have := hb1.size; omega
          have HG1 := Lib.hid hg1
          have HB1 := Lib.hid hB1
          clear hg hz hB hb1 hg1 hB1 hz1
          go_wp2_with fail
          refine (HC1.out w1).mono ?_
          rintro e w2 ⟨rfl, hb2⟩
          have HG2 := Lib.hid (blk_up (o := .cells #[.int .i64 (x1 : Int), .int .i64 (x2 : Int)] 31) ((hb2.block w.heap.size (lt_of_blk HG1.out)).trans HG1.out))
          have HG2x := Lib.hid ((hb2.block w.heap.size (lt_of_blk HG1.out)).trans HG1.out)
          have HX2 := Lib.hid (heap_alloc_new w2 (.cells #[.int .i64 (x1 : Int), .int .i64 (x2 : Int)] 31))
          have b2 := HB1.out.trans (hb2.mono HB1.out.size)
          have HB2 := Lib.hid (b2.alloc b2.size (.cells #[.int .i64 (x1 : Int), .int .i64 (x2 : Int)] 31))
          clear hb2 b2
          go_wp2_with fail
          refine (HC2.out _).mono ?_
          rintro e w3 ⟨rfl, hb3⟩
          have hg3 := blk_up (o := .cells #[.int .i64 (y1 : Int), .int .i64 (y2 : Int)] 31) ((hb3.block w.heap.size (lt_of_blk HG2.out)).trans HG2.out)
          have HG3x := Lib.hid ((hb3.block w.heap.size (lt_of_blk HG2.out)).trans HG2.out)
          have hx3 := blk_up (o := .cells #[.int .i64 (y1 : Int), .int .i64 (y2 : Int)] 31) ((hb3.block w2.heap.size (lt_of_blk HX2.out)).trans HX2.out)
          have hy3 := heap_alloc_new w3 (.cells #[.int .i64 (y1 : Int), .int .i64 (y2 : Int)] 31)
          have b3 := HB2.out.trans (hb3.mono HB2.out.size)
          have hB3 := b3.alloc b3.size (.cells #[.int .i64 (y1 : Int), .int .i64 (y2 : Int)] 31)
          have u0 := (blk_cell (j := 0) hx3).trans (show _ = some (.int .i64 (x1 : Int)) from rfl)
          have u1 := (blk_cell (j := 1) hx3).trans (show _ = some (.int .i64 (x2 : Int)) from rfl)
          have v0 := (blk_cell (j := 0) hy3).trans (show _ = some (.int .i64 (y1 : Int)) from rfl)
          have v1 := (blk_cell (j := 1) hy3).trans (show _ = some (.int .i64 (y2 : Int)) from rfl)
          have HG3 := Lib.hid hg3
          have HB3 := Lib.hid hB3
          clear b3 hb3 hg3 hB3 hx3 hy3
          go_wp2_with fail
          generalize w3.alloc (Obj.cells #[Value.int .i64 (y1 : Int), Value.int .i64 (y2 : Int)] 31) = V at *
          go_quiet ((go_at_call 50; first | (with_reducible exact qs0 (HG1'.out _)) | (with_reducible exact qs0 (HG2'.out _))))
          go_wp2_with fail
          obtain ⟨V2, hV2⟩ : ∃ V2, V2 = V.drewN nq := ⟨_, rfl⟩
          rw [← hV2]
          have HG4 := Lib.hid (show V2.heap[w.heap.size]? = _ from (show V2.heap[w.heap.size]? = V.heap[w.heap.size]? by rw [hV2]; rfl).trans HG3.out)
          have HB4 := Lib.hid (show Below w.heap.size w V2 by rw [hV2]; exact bdN HB3.out nq)
          have HU := Lib.hid (show (V2.cell? ⟨w2.heap.size, 0, none⟩ = some (.int .i64 (x1 : Int)) ∧ V2.cell? ⟨w2.heap.size, 1, none⟩ = some (.int .i64 (x2 : Int))) ∧ (V2.cell? ⟨w3.heap.size, 0, none⟩ = some (.int .i64 (y1 : Int)) ∧ V2.cell? ⟨w3.heap.size, 1, none⟩ = some (.int .i64 (y2 : Int))) by rw [hV2]; exact ⟨⟨u0, u1⟩, v0, v1⟩)
          have hbx : w2.heap.size < V2.heap.size := World.block_lt_of_cell? V2 _ HU.out.1.1
          have hby : w3.heap.size < V2.heap.size := World.block_lt_of_cell? V2 _ HU.out.2.1
          have hbg : w.heap.size < V2.heap.size := lt_of_blk HG4.out
          have HK := Lib.hid (fun (w5 : World) (k : Below V2.heap.size V2 w5) => show (w5.cell? ⟨w2.heap.size, 0, none⟩ = some (.int .i64 (x1 : Int)) ∧ w5.cell? ⟨w2.heap.size, 1, none⟩ = some (.int .i64 (x2 : Int))) ∧ (w5.cell? ⟨w3.heap.size, 0, none⟩ = some (.int .i64 (y1 : Int)) ∧ w5.cell? ⟨w3.heap.size, 1, none⟩ = some (.int .i64 (y2 : Int))) from
            ⟨⟨cell_keep HU.out.1.1 k hbx, cell_keep HU.out.1.2 k hbx⟩, ⟨cell_keep HU.out.2.1 k hby, cell_keep HU.out.2.2 k hby⟩⟩)
          have ra1 := Lib.hid (wrapI_div (n := x1) (g := g) (by have := HXL.out; have := HYL.out; omega))
          have rb1 := Lib.hid (wrap_div (n := x1) (g := g) (by have := HXL.out; have := HYL.out; omega))
          have ra2 := Lib.hid (wrapI_div (n := y2) (g := h) (by have := HXL.out; have := HYL.out; omega))
          have rb2 := Lib.hid (wrap_div (n := y2) (g := h) (by have := HXL.out; have := HYL.out; omega))
          have ra3 := Lib.hid (wrapI_div (n := x2) (g := h) (by have := HXL.out; have := HYL.out; omega))
          have rb3 := Lib.hid (wrap_div (n := x2) (g := h) (by have := HXL.out; have := HYL.out; omega))
          have ra4 := Lib.hid (wrapI_div (n := y1) (g := g) (by have := HXL.out; have := HYL.out; omega))
          have rb4 := Lib.hid (wrap_div (n := y1) (g := g) (by have := HXL.out; have := HYL.out; omega))
          have ra5 := Lib.hid (wrapI_mul (u := x1 / g) (v := y2 / h) L1.out.1)
          have rb5 := Lib.hid (wrap64_mul (u := x1 / g) (v := y2 / h) L1.out.1)
          have ra6 := Lib.hid (wrapI_mul (u := x2 / h) (v := y1 / g) L1.out.2)
          have rb6 := Lib.hid (wrap64_mul (u := x2 / h) (v := y1 / g) L1.out.2)
          obtain ⟨q, hqq⟩ : ∃ q, q = (x1 / g * (y2 / h), x2 / h * (y1 / g)) := ⟨_, rfl⟩
          obtain ⟨q1, q2⟩ := q
          rw [← hqq] at HF HV
          injection hqq with hq1 hq2
          unfold ratV at HF
          have HQ1 := Lib.hid hq1
          have HQ2 := Lib.hid hq2
          have hnx : w2.heap.size ≠ w.heap.size := Nat.ne_of_gt (lt_of_blk HG2x.out)
          have hny : w3.heap.size ≠ w.heap.size := Nat.ne_of_gt (lt_of_blk HG3x.out)
          have HK2 := Lib.hid (fun (w5 : World) (k : Below V2.heap.size V2 w5) => show let w6 := (w5.setCell ⟨w.heap.size, 0, none⟩ (.int .i64 (q1 : Int))).setCell ⟨w.heap.size, 1, none⟩ (.int .i64 (q2 : Int)); (w6.cell? ⟨w2.heap.size, 0, none⟩ = some (.int .i64 (x1 : Int)) ∧ w6.cell? ⟨w2.heap.size, 1, none⟩ = some (.int .i64 (x2 : Int))) ∧ (w6.cell? ⟨w3.heap.size, 0, none⟩ = some (.int .i64 (y1 : Int)) ∧ w6.cell? ⟨w3.heap.size, 1, none⟩ = some (.int .i64 (y2 : Int))) from
            have t := HK.out w5 k
            ⟨⟨cell_off (cell_off t.1.1 hnx) hnx, cell_off (cell_off t.1.2 hnx) hnx⟩, ⟨cell_off (cell_off t.2.1 hny) hny, cell_off (cell_off t.2.2 hny) hny⟩⟩)
          have HS0 := Lib.hid (HK.out V2.drew ((Below.refl _ V2).drew))
          have BD := Lib.hid ((Below.refl V2.heap.size V2).drew)
          have HP := Lib.hid (fun (w5 : World) (k : Below V2.heap.size V2 w5) => put2 ((k.block w.heap.size hbg).trans HG4.out) (.int .i64 (q1 : Int)) (.int .i64 (q2 : Int)))
          have HZ := Lib.hid (fun (w5 : World) (k : Below V2.heap.size V2 w5) => put2_below (W := w5) (g := w.heap.size) (.int .i64 (q1 : Int)) (.int .i64 (q2 : Int)) (HB4.out.trans (k.mono HB4.out.size)) (Nat.le_refl _) ((HB4.out.trans (k.mono HB4.out.size)).size))
          have ng1 : g ≠ 0 := by omega
          have ng2 : h ≠ 0 := by omega
          have wa1 : IntKind.i64.wrap ((x1 : Int) / (g : Int)) = (x1 : Int) / (g : Int) := ra1.out
          have wa2 : IntKind.i64.wrap ((y2 : Int) / (h : Int)) = (y2 : Int) / (h : Int) := ra2.out
          have wa3 : IntKind.i64.wrap ((x2 : Int) / (h : Int)) = (x2 : Int) / (h : Int) := ra3.out
          have wa4 : IntKind.i64.wrap ((y1 : Int) / (g : Int)) = (y1 : Int) / (g : Int) := ra4.out
          have wa5 : IntKind.i64.wrap ((x1 : Int) / (g : Int) * ((y2 : Int) / (h : Int))) = (x1 : Int) / (g : Int) * ((y2 : Int) / (h : Int)) := ra5.out
          have wa6 : IntKind.i64.wrap ((x2 : Int) / (h : Int) * ((y1 : Int) / (g : Int))) = (x2 : Int) / (h : Int) * ((y1 : Int) / (g : Int)) := ra6.out
          have HF1 := Lib.hid (show ((x1 / g * (y2 / h) : Nat) : Int) = (x1 : Int) / (g : Int) * ((y2 : Int) / (h : Int)) from Int.natCast_mul _ _)
          have HF2 := Lib.hid (show ((x2 / h * (y1 / g) : Nat) : Int) = (x2 : Int) / (h : Int) * ((y1 : Int) / (g : Int)) from Int.natCast_mul _ _)
          rw [HF1.out, HF2.out] at HF
          clear hV2 hbx hby hbg hq1 hq2 hnx hny u0 u1 v0 v1
          go_region_held3 (fun w' => (w'.cell? ⟨w2.heap.size, 0, none⟩ = some (.int .i64 (x1 : Int)) ∧ w'.cell? ⟨w2.heap.size, 1, none⟩ = some (.int .i64 (x2 : Int))) ∧ (w'.cell? ⟨w3.heap.size, 0, none⟩ = some (.int .i64 (y1 : Int)) ∧ w'.cell? ⟨w3.heap.size, 1, none⟩ = some (.int .i64 (y2 : Int))))
            (first | exact HS0.out | exact SK7.out | exact SK8.out)
            ((go_at_call 24; refine (HF.out V2.drew).mono ?_; rintro e w7 ⟨rfl, hb⟩; have B7 := Lib.hid (BD.out.trans (hb.mono BD.out.size)); have SK7 := Lib.hid (HK.out w7 B7.out); have SK8 := Lib.hid (HK2.out w7 B7.out); obtain ⟨d0, f0, d1, f1, HR⟩ := HP.out w7 B7.out; clear hb))
          all_goals
            have BZ := Lib.hid (HZ.out w7 B7.out)
            go_wp2_with fail
            (try simp only [Exit.inBlock, Exit.then])
            refine bodyPost_ret (v := .tuple #[.agg #[.int .i64 (q1 : Int), .int .i64 (q2 : Int)], .int .i64 0]) (results_row_tmp (p := 8) (u := 9) rfl _ _ w.heap.size 31 _ _ _ rfl HR.out Try.underlying31 rfl sizeRat) rfl ⟨?_, BZ.out⟩
            rw [HV.out, HE.out]; rfl
      · have HE := Lib.hid (show odE b m c a = 8 by rw [HE0.out, if_pos (.inr (of_decide_eq_true e2))])
        have HV := Lib.hid (show odV b m c a = (0, 0) from if_neg (by rw [HE.out]; decide))
        clear hv
        go_enter Try.func28, Try.ntmps28
        go_wp2_with fail
        rw [HW.out, ← hz]
        refine HAA.out.mono ?_
        rintro e w1 ⟨rfl, hb1⟩
        have hB1 := hB.trans (hb1.mono hB.size)
        have hg1 := (hb1.block w.heap.size (by omega)).trans hg
        have hz1 : w.heap.size < w1.heap.size := by have := hb1.size; omega
        obtain ⟨d0, f0, d1, f1, HR⟩ := put2 hg1 (.int .i64 0) (.int .i64 0)
        have BZ := Lib.hid (put2_below (W := w1) (g := w.heap.size) (.int .i64 0) (.int .i64 0) hB1 (Nat.le_refl _) (hB1).size)
        clear hg hz hB hb1 hg1 hB1 hz1
        go_wp2_with fail
        (try simp only [Exit.inBlock, Exit.then])
        refine bodyPost_ret (v := .tuple #[.agg #[.int .i64 0, .int .i64 0], .int .i64 8]) (results_row_tmp (p := 8) (u := 9) rfl _ _ w.heap.size 31 _ _ _ rfl HR.out Try.underlying31 rfl sizeRat) rfl ⟨?_, BZ.out⟩
        rw [HV.out, HE.out]; rfl
    · have HE := Lib.hid (show odE b m c a = 8 by rw [HE0.out, if_pos (.inl (of_decide_eq_true e1))])
      have HV := Lib.hid (show odV b m c a = (0, 0) from if_neg (by rw [HE.out]; decide))
      clear hv
      go_enter Try.func28, Try.ntmps28
      go_wp2_with fail
      rw [HW.out, ← hz]
      refine HAA.out.mono ?_
      rintro e w1 ⟨rfl, hb1⟩
      have hB1 := hB.trans (hb1.mono hB.size)
      have hg1 := (hb1.block w.heap.size (by omega)).trans hg
      have hz1 : w.heap.size < w1.heap.size := by have := hb1.size; omega
      obtain ⟨d0, f0, d1, f1, HR⟩ := put2 hg1 (.int .i64 0) (.int .i64 0)
      have BZ := Lib.hid (put2_below (W := w1) (g := w.heap.size) (.int .i64 0) (.int .i64 0) hB1 (Nat.le_refl _) (hB1).size)
      clear hg hz hB hb1 hg1 hB1 hz1
      go_wp2_with fail
      (try simp only [Exit.inBlock, Exit.then])
      refine bodyPost_ret (v := .tuple #[.agg #[.int .i64 0, .int .i64 0], .int .i64 8]) (results_row_tmp (p := 8) (u := 9) rfl _ _ w.heap.size 31 _ _ _ rfl HR.out Try.underlying31 rfl sizeRat) rfl ⟨?_, BZ.out⟩
      rw [HV.out, HE.out]; rfl
end Go.Proofs.Ytgpghnhpbjnhkaa

/-
  The walk of Most of the reference. No condition.
-/
import Derived.Test.YtnnlbllkckakbaaDoorWb8
namespace Go.Proofs.YtnnlbllkckakbaaDoor
open Go.RowKit
set_option linter.unusedVariables false

def moV (g : Nat → Int) (j : Nat) : Value := .int .i64 (g j)
def fillN (k j : Nat) : Int := if j = 0 then 0 else if j < k then -1 else 0
theorem fill_zero (N : Nat) : rowV (moV (fillN 1)) N = (ints (List.replicate N 0)).toArray := by
  have e : rowV (moV (fillN 1)) N = rowV (fun _ => .int .i64 0) N := rowV_congr fun j _ => by
    unfold moV fillN
    by_cases h0 : j = 0
    · rw [if_pos h0]
    · rw [if_neg h0, if_neg (by omega)]
  rw [e]
  unfold rowV ints
  congr 1
  rw [List.map_const', List.length_range, List.map_replicate]
theorem fill_next {k N : Nat} (hk : 1 ≤ k) : (rowV (moV (fillN k)) N).setIfInBounds k (.int .i64 (-1)) = rowV (moV (fillN (k + 1))) N := by
  rw [rowV_set]
  refine rowV_congr fun j _ => ?_
  unfold moV fillN
  by_cases h : j = k
  · rw [if_pos h, if_neg (by omega), if_pos (by omega)]
  · rw [if_neg h]
    by_cases h0 : j = 0
    · rw [if_pos h0, if_pos h0]
    · rw [if_neg h0, if_neg h0]
      by_cases h1 : j < k
      · rw [if_pos h1, if_pos (by omega)]
      · rw [if_neg h1, if_neg (by omega)]
theorem fill_all (f : Nat → Nat) (N : Nat) : rowV (moV (fillN N)) N = rowV (moV (mo f 0)) N := rowV_congr fun j hj => by
  unfold moV fillN mo
  by_cases h0 : j = 0
  · rw [if_pos h0, if_pos h0]
  · rw [if_neg h0, if_neg h0, if_pos hj]
/-- The sum of the powers. -/
def sumP (L : List Int) : Nat := (L.map fun d => 2 ^ d.toNat).sum
theorem sumP_list (f : Nat → Bool) : ∀ k, sumP (listK f k) = bitK f k
  | 0 => rfl
  | k + 1 => by
    rw [bitK, ← sumP_list f k]
    cases h : f k
    · rw [listK_no h]; simp
    · rw [listK_yes h]; simp [sumP]
theorem sumP_next {L : List Int} {k n : Nat} (h : L[k]? = some (n : Int)) : sumP (L.take (k + 1)) = sumP (L.take k) + 2 ^ n := by
  unfold sumP
  rw [List.take_add_one, h]
  simp
theorem sumP_le (L : List Int) (k : Nat) : sumP (L.take k) ≤ sumP L := by
  have h : sumP L = sumP (L.take k) + sumP (L.drop k) := by
    unfold sumP
    rw [← List.sum_append, ← List.map_append, List.take_append_drop]
  omega
def mostV (l : List Pt) : Int := if pipesE l = 0 then (cnt (apM l) : Nat) else 0
theorem made_i64 {w w1 : World} {n : Nat} (h : w1.ownsRow w.heap.size 3 1 (.slice (some ⟨w.heap.size, 0, none⟩) n n) n (madeCells (Value.int .i64 0).cells (n * 1)).toList) (hg : w.grownBy w1 none) :
    Below w.heap.size w w1 ∧ w1.heap[w.heap.size]? = some (.cells (ints (List.replicate n 0)).toArray 3 (0, 0)) := by
  refine ⟨(Below.refl _ _).grown hg (Nat.le_refl _) (by simp), ?_⟩
  have hcells : (madeCells (Value.int .i64 0).cells (n * 1)).toList = ints (List.replicate n 0) := by
    rw [Nat.mul_one]
    exact (toList_madeCells_one (.int .i64 0) n).trans (by simp [ints])
  rw [← hcells]
  exact own_full h
theorem moV_set {g g2 : Nat → Int} {N k : Nat} {v : Int} (h : ∀ j, j < N → g2 j = if j = k then v else g j) : (rowV (moV g) N).setIfInBounds k (.int .i64 v) = rowV (moV g2) N := by
  rw [rowV_set]
  refine rowV_congr fun j hj => ?_
  unfold moV
  rw [h j hj]
  by_cases e : j = k
  · rw [if_pos e, if_pos e]
  · rw [if_neg e, if_neg e]
theorem moV_congr {g g2 : Nat → Int} {N : Nat} (h : ∀ j, j < N → g2 j = g j) : rowV (moV g) N = rowV (moV g2) N := rowV_congr fun j hj => by unfold moV; rw [h j hj]
set_option maxRecDepth 4000 in
set_option maxHeartbeats 3200000 in
theorem rMost_any (A : Option Addr) (c : Nat) (l : List Pt) (w : World) (hr : Rd w w.heap.size A (l.flatMap Pt.cells)) (hn : l.length ≤ 9223372036854775807) :
    Calls Tryd.prog 50 #[.slice A l.length c] w fun e w' => e = .returned (.tuple #[.int .i64 (mostV l), .int .i64 (pipesE l)]) ∧ Below w.heap.size w w' := by
  have HR := Lib.hid hr
  have HV := Lib.hid (fun w h => rValidatePipes_any A c l w h hn)
  clear hr
  by_cases hE : pipesE l = 0
  · obtain ⟨h10, _⟩ := pipesE_zero hE
    have e2 : mostV l = maxK (mo (workN l) 32) (2 ^ l.length) := by rw [most_same h10]; exact if_pos hE
    have hpow := pow_small h10
    have hpos := Nat.two_pow_pos l.length
    have HSl := Lib.hid (shl_small h10)
    have HW := Lib.hid (fun p w h hp => rworkable_any A c l p w h hE hp)
    have HWs := Lib.hid (fun p => sumP_list (workB l p) l.length)
    have HWl := Lib.hid (fun p => listK_le (workB l p) l.length)
    have HWm := Lib.hid (fun p d h => listK_mem (f := workB l p) (k := l.length) (d := d) h)
    change Hid (∀ p, sumP (wkL l p) = workN l p) at HWs
    change Hid (∀ p, (wkL l p).length ≤ l.length) at HWl
    change Hid (∀ p d, d ∈ wkL l p → ∃ j : Nat, d = (j : Int) ∧ j < l.length ∧ workB l p j = true) at HWm
    have HFl := Lib.hid (fun p => workN_small h10 p)
    have HF63 := Lib.hid (workN_63 h10)
    have HFN := Lib.hid (show ∀ p, workN l p < 2 ^ l.length from fun p => bitK_lt _ _)
    have HOr := Lib.hid (show ∀ a b, a < 2 ^ l.length → b < 2 ^ l.length → a ||| b < 2 ^ l.length from fun a b ha hb => Nat.or_lt_two_pow ha hb)
    rw [e2, hE]
    rw [hE] at HV
    obtain ⟨f, hf⟩ : ∃ f, workN l = f := ⟨_, rfl⟩
    rw [hf] at HFl HF63 ⊢
    simp only [hf] at HFN
    simp only [hf] at HWs
    clear hf e2 hE
    have HMl := Lib.hid (fun p n (hp : p ≤ 32) (h : n < 9223372036854775808) => mo_le HF63.out (p := p) (n := n) hp h)
    have HMg := Lib.hid (fun p n => mo_ge f n p)
    obtain ⟨i0, hi, hz0, hz1, hz2⟩ := info_parts Tryd.eInt.hi
    obtain ⟨N, hN⟩ : ∃ N, 2 ^ l.length = N := ⟨_, rfl⟩
    rw [hN] at hpow hpos HSl HFN HOr ⊢
    clear hN
    go_enter Tryd.func50, Tryd.ntmps50
    go_wp2_with fail
    refine (HV.out w HR.out).mono ?_
    rintro e w1 ⟨rfl, hb⟩
    have B1 := Lib.hid hb
    clear hb
    go_wp2_with (at_make; refine wpList_make_full _ rfl (.tmp 21) (.tmp 21) 38 rfl w1.heap.size 3 i0 (.int .i64 0) 1 Tryd.underlying38 hi hz0 hz1 .i64 .i64 _ _ N rfl rfl HSl.out HSl.out (by rw [hz2]; omega) (by simp only [maxLen]; omega) (Nat.le_refl _) ?_; intro w3 hown hg; have M := Lib.hid (made_i64 hown hg); clear hown hg)
    have B3 := Lib.hid (B1.out.trans (M.out.1.mono B1.out.size))
    have M0 := Lib.hid (show w3.heap[w1.heap.size]? = some (.cells (rowV (moV (fillN 1)) N) 3 (0, 0)) by rw [fill_zero]; exact M.out.2)
    have NE := Lib.hid (show w.heap.size ≤ w1.heap.size from B1.out.size)
    go_loopw [6] (fun i wr => ∃ k : Nat, 1 ≤ k ∧ k ≤ N ∧ i = .int .i64 k ∧ wr.heap[w1.heap.size]? = some (.cells (rowV (moV (fillN k)) N) 3 (0, 0)) ∧ Below w.heap.size w wr) (fun i _ => N - (intOf i).toNat)
    case atStart => exact ⟨1, by omega, by omega, rfl, M0.out, B3.out⟩
    case round =>
      obtain ⟨k, hk1, hk, rfl, hblk, hb⟩ := hrel
      have BK := Lib.hid hblk
      have BW := Lib.hid hb
      have hgl := lt_of_block hblk
      clear hblk hb
      by_cases hlk : k < N
      · have hck : wr.cell? ⟨w1.heap.size, k, none⟩ = some (moV (fillN k) k) := by rw [blk_cell BK.out, rowV_at hlk]
        have hfree := blk_free BK.out k
        have HN := Lib.hid (fill_next (k := k) (N := N) hk1)
        have k1 : (k : Int) < (N : Int) := by omega
        have k0 : (0 : Int) ≤ (k : Int) := by omega
        go_wp2_with fail
        go_roundw
        case rel => exact ⟨k + 1, by omega, by omega, by go_num, by rw [← HN.out]; exact blk_set BK.out k _, Below.setCell BW.out NE.out _⟩
        case measure => simp [intOf]; omega
      · obtain rfl : k = N := by omega
        have M1 := Lib.hid (show wr.heap[w1.heap.size]? = some (.cells (rowV (moV (mo f 0)) k) 3 (0, 0)) by rw [← fill_all]; exact BK.out)
        clear BK hgl
        obtain ⟨wf, rfl⟩ : ∃ wf : World, wf = wr := ⟨_, rfl⟩
        go_wp2_with fail
        go_loopw [7] (fun i wr => ∃ p : Nat, p ≤ 32 ∧ i = .int .i64 p ∧ wr.heap[w1.heap.size]? = some (.cells (rowV (moV (mo f p)) k) 3 (0, 0)) ∧ Below w.heap.size w wr) (fun i _ => 32 - (intOf i).toNat)
        case atStart => exact ⟨0, by omega, rfl, M1.out, BW.out⟩
        case round =>
          obtain ⟨p, hp, rfl, hblk, hb⟩ := hrel
          have BK := Lib.hid hblk
          have BV := Lib.hid hb
          have RV := Lib.hid ((HR.out.below hb (Nat.le_refl _)).more hb.size)
          have hgl := lt_of_block hblk
          clear hblk hb
          by_cases hlp : p < 32
          · have ep : decide ((p : Int) < 32) = true := by simp; omega
            have HWp := Lib.hid (fun w h => HW.out p w h hlp)
            have HWsp := Lib.hid (HWs.out p)
            have HWlp := HWl.out p
            have HWmp := Lib.hid (HWm.out p)
            have hfl := HFl.out p
            unfold MadeI at HWp
            generalize wkL l p = L at *
            go_wp2_with fail
            refine (HWp.out wr RV.out).mono ?_
            rintro e w4 ⟨A4, c4, rfl, hc4, hr4, hb⟩
            have R4 := Lib.hid hr4
            have B4 := Lib.hid (BV.out.trans (hb.mono BV.out.size))
            have BK4 := Lib.hid ((hb.block _ hgl).trans BK.out)
            clear hb hr4 ep
            go_wp2_with fail
            go_loop [8, 10] (fun m i => ∃ q : Nat, q ≤ L.length ∧ i = .int .i64 q ∧ m = .int .i64 (sumP (L.take q) : Nat)) (fun _ i => L.length - (intOf i).toNat)
            case atStart => exact ⟨0, by omega, rfl, rfl⟩
            case round =>
              obtain ⟨q, hq, rfl, rfl⟩ := hrel
              have hsl := sumP_le L q
              rw [HWsp.out] at hsl
              by_cases hlq : q < L.length
              · obtain ⟨b, o, d, rfl, hd, hc⟩ := R4.out.int q hlq
                obtain ⟨n, rfl, hnl, _⟩ := HWmp.out d (List.mem_of_getElem? hd.out)
                have HS := Lib.hid (sumP_next hd.out)
                have hsl2 := sumP_le L (q + 1)
                rw [HWsp.out, HS.out] at hsl2
                have hsh := shl_small (n := n) (by omega)
                have n0 : (0 : Int) ≤ (n : Int) := by omega
                generalize sumP (L.take q) = S at *
                generalize 2 ^ n = P at *
                go_wp2_with fail
                go_round
                case rel => exact ⟨q + 1, by omega, by go_num, by rw [HS.out]; go_num⟩
                case measure => simp [intOf]; omega
              · obtain rfl : q = L.length := by omega
                rw [List.take_length, HWsp.out] at hsl ⊢
                have hfN := HFN.out p
                have HMlp := Lib.hid (fun n h => HMl.out p n hp h)
                have HMgp := Lib.hid (fun n => HMg.out p n)
                have hu63 : f p < 9223372036854775808 := by omega
                by_cases h0 : f p = 0
                · have e0 : ((f p : Int) == 0) = true := by rw [h0]; rfl
                  have HS := Lib.hid (moV_congr (g := mo f p) (g2 := mo f (p + 1)) (N := k) fun j _ => by rw [mo, if_pos h0])
                  clear h0
                  go_wp2_with fail
                  go_roundw
                  case rel => exact ⟨p + 1, by omega, by go_num, by rw [← HS.out]; exact BK4.out, B4.out⟩
                  case measure => simp [intOf]; omega
                · have e0 : ((f p : Int) == 0) = false := beq_eq_false_iff_ne.2 (by omega)
                  have HS := Lib.hid (moV_congr (g := moR (f p) (mo f p) 0) (g2 := mo f (p + 1)) (N := k) fun j _ => by rw [mo, if_neg h0, moR_end])
                  have HS0 := Lib.hid (moV_congr (g := mo f p) (g2 := moR (f p) (mo f p) k) (N := k) fun j hj => moR_start hj)
                  have BS := Lib.hid (show w4.heap[w1.heap.size]? = some (.cells (rowV (moV (moR (f p) (mo f p) k)) k) 3 (0, 0)) by rw [← HS0.out]; exact BK4.out)
                  have HAt := Lib.hid (fun n hn h => moR_at (u := f p) (M := mo f p) (n := n) hn hu63 h0 h)
                  have HSk := Lib.hid (fun n j hj h => moR_skip (u := f p) (M := mo f p) (n := n) (j := j) hj hu63 h)
                  have HDo := Lib.hid (fun n j hn hj h h2 => moR_do (u := f p) (M := mo f p) (n := n) (j := j) hn hj hu63 h h2)
                  clear HS0 h0 BK4
                  generalize f p = u at *
                  generalize mo f p = M at *
                  go_wp2_with fail
                  clear e0
                  go_loopw [11] (fun i wr => ∃ n : Nat, n ≤ k ∧ i = .int .i64 ((n : Int) - 1) ∧ wr.heap[w1.heap.size]? = some (.cells (rowV (moV (moR u M n)) k) 3 (0, 0)) ∧ Below w.heap.size w wr) (fun i _ => (intOf i + 1).toNat)
                  case atStart => exact ⟨k, by omega, by go_num, BS.out, B4.out⟩
                  case round =>
                    obtain ⟨n, hnk, rfl, hblk, hb⟩ := hrel
                    have BK5 := Lib.hid hblk
                    have B5 := Lib.hid hb
                    have hgl5 := lt_of_block hblk
                    clear hblk hb
                    cases n with
                    | zero =>
                      have en : (((0 : Nat) : Int) - 1) = -1 := by omega
                      rw [en]
                      go_wp2_with fail
                      go_roundw
                      case rel => exact ⟨p + 1, by omega, by go_num, by rw [← HS.out]; exact BK5.out, B5.out⟩
                      case measure => simp [intOf]; omega
                    | succ n =>
                      have en : (((n + 1 : Nat) : Int) - 1) = (n : Int) := by omega
                      rw [en]
                      have n0 : (0 : Int) ≤ (n : Int) := by omega
                      have n1 : (n : Int) < (k : Int) := by omega
                      have n63 : n < 9223372036854775808 := by omega
                      have hand := i64_and_nat n u n63 hu63
                      have hor := i64_or_nat n u n63 hu63
                      have hcn : wr.cell? ⟨w1.heap.size, n, none⟩ = some (moV (moR u M (n + 1)) n) := by rw [blk_cell BK5.out, rowV_at (by omega)]
                      by_cases ha : n &&& u = 0
                      · obtain ⟨a1, a2⟩ := HAt.out n n63 ha
                        unfold moV at hcn
                        rw [a1] at hcn
                        have ea : (((n &&& u : Nat) : Int) == 0) = true := by rw [ha]; rfl
                        by_cases hM : 0 ≤ M n
                        · have eM : decide (0 ≤ M n) = true := decide_eq_true hM
                          have hJ := HOr.out n u (by omega) hfN
                          have HSt := Lib.hid (moV_set (g := moR u M (n + 1)) (g2 := moR u M n) (N := k) (k := n ||| u) (v := max (M (n ||| u)) (M n + 1)) fun j hj => HDo.out n j n63 (by omega) ha hM)
                          have hcj : wr.cell? ⟨w1.heap.size, n ||| u, none⟩ = some (.int .i64 (M (n ||| u))) := by rw [blk_cell BK5.out, rowV_at hJ]; unfold moV; rw [a2]
                          have hfree := blk_free BK5.out (n ||| u)
                          have hMl := HMlp.out n n63
                          have hMg := HMgp.out (n ||| u)
                          have hMl2 := HMlp.out (n ||| u) (by omega)
                          have j1 : ((n ||| u : Nat) : Int) < (k : Int) := by omega
                          have j0 : (0 : Int) ≤ ((n ||| u : Nat) : Int) := by omega
                          clear a1 a2 ha
                          generalize n &&& u = an at *
                          generalize n ||| u = J at *
                          generalize M J = mj at *
                          generalize M n = mn at *
                          go_wp2_with fail
                          go_region
                          go_wp2_with fail
                          go_roundw
                          case rel => exact ⟨n, by omega, by go_num, by rw [← HSt.out]; exact blk_set BK5.out J _, (Below.setCell B5.out NE.out _).drew⟩
                          case measure => simp [intOf]
                        · have eM : decide (0 ≤ M n) = false := decide_eq_false hM
                          have HSt := Lib.hid (moV_congr (g := moR u M (n + 1)) (g2 := moR u M n) (N := k) fun j hj => HSk.out n j (by omega) (.inr (by omega)))
                          have hMg := HMgp.out n
                          clear a1 a2 ha
                          generalize n &&& u = an at *
                          generalize M n = mn at *
                          go_wp2_with fail
                          go_roundw
                          case rel => exact ⟨n, by omega, by go_num, by rw [← HSt.out]; exact BK5.out, B5.out⟩
                          case measure => simp [intOf]
                      · have ea : (((n &&& u : Nat) : Int) == 0) = false := beq_eq_false_iff_ne.2 (by omega)
                        have HSt := Lib.hid (moV_congr (g := moR u M (n + 1)) (g2 := moR u M n) (N := k) fun j hj => HSk.out n j (by omega) (.inl ha))
                        unfold moV at hcn
                        clear ha
                        generalize n &&& u = an at *
                        generalize moR u M (n + 1) n = mn at *
                        cases eM : decide (0 ≤ mn)
                        all_goals
                          go_wp2_with fail
                          go_roundw
                        all_goals first | exact ⟨n, by omega, by go_num, by rw [← HSt.out]; exact BK5.out, B5.out⟩ | (simp [intOf]; done) | (simp [intOf]; omega)
          · obtain rfl : p = 32 := by omega
            obtain ⟨M, hM⟩ : ∃ M, mo f 32 = M := ⟨_, rfl⟩
            rw [hM] at BK
            have HME := Lib.hid hM
            clear hM
            go_wp2_with fail
            go_loop [12, 13] (fun b i => ∃ n : Nat, n ≤ k ∧ i = .int .i64 n ∧ b = .int .i64 (maxK M n)) (fun _ i => k - (intOf i).toNat)
            case atStart => exact ⟨0, by omega, rfl, rfl⟩
            case round =>
              obtain ⟨n, hnk, rfl, rfl⟩ := hrel
              by_cases hln : n < k
              · have hcn : wr.cell? ⟨w1.heap.size, n, none⟩ = some (moV M n) := by rw [blk_cell BK.out, rowV_at hln]
                unfold moV at hcn
                have HS := Lib.hid (show maxK M (n + 1) = max (maxK M n) (M n) from rfl)
                have n0 : (0 : Int) ≤ (n : Int) := by omega
                have n1 : (n : Int) < (k : Int) := by omega
                generalize maxK M n = b at *
                generalize M n = mn at *
                go_wp2_with fail
                go_round
                case rel => exact ⟨n + 1, by omega, by go_num, by rw [HS.out]⟩
                case measure => simp [intOf]; omega
              · obtain rfl : n = k := by omega
                go_wp2_with fail
                go_ret2
                rw [HME.out]
                exact ⟨rfl, BV.out⟩
  · have e2 : mostV l = 0 := if_neg hE
    rw [e2]
    generalize pipesE l = E at *
    have hb1 : (E == 0) = false := by simpa using hE
    have hb2 : (E != 0) = true := by simpa using hE
    clear hE e2
    go_enter Tryd.func50, Tryd.ntmps50
    go_wp2_with fail
    refine (HV.out w HR.out).mono ?_
    rintro e w1 ⟨rfl, hb⟩
    have B1 := Lib.hid hb
    clear hb
    go_wp2_with fail
    go_ret2
    exact ⟨rfl, B1.out⟩
end Go.Proofs.YtnnlbllkckakbaaDoor

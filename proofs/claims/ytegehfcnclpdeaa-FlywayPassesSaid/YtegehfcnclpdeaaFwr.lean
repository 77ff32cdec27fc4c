/-
  Equations: the walks of reduce and of equation.without. Condition: numbers far from the ends of int64; not all of them 0.
-/
import Derived.Test.YtegehfcnclpdeaaFwg
import Derived.Test.YtegehfcnclpdeaaFmk
namespace Go.Proofs.Ytegehfcnclpdeaa
open Go.RowKit
set_option linter.unusedVariables false

/-- The greatest common divisor of the first n numbers. -/
def gcdF (f : Nat → Int) : Nat → Nat
  | 0 => 0
  | k + 1 => Nat.gcd (gcdF f k) (f k).natAbs
theorem gcdF_congr {f g : Nat → Int} : ∀ {n : Nat}, (∀ k, k < n → f k = g k) → gcdF f n = gcdF g n
  | 0, _ => rfl
  | n + 1, h => by
    show Nat.gcd _ _ = Nat.gcd _ _
    rw [gcdF_congr (n := n) fun k hk => h k (by omega), h n (by omega)]
theorem gcdF_le {f : Nat → Int} (h : ∀ k, Mid (f k)) : ∀ n, gcdF f n ≤ 4000000000000000000
  | 0 => Nat.zero_le _
  | n + 1 => by
    have hk := h n
    unfold Mid at hk
    show Nat.gcd (gcdF f n) (f n).natAbs ≤ _
    rcases Nat.eq_zero_or_pos (f n).natAbs with h0 | h0
    · rw [h0, Nat.gcd_zero_right]; exact gcdF_le h n
    · have := Nat.gcd_le_right (gcdF f n) h0
      omega
def partF (f : Nat → Int) (d : Int) (k p : Nat) : Int := if p < k then Int.tdiv (f p) d else f p
set_option maxRecDepth 8000 in
set_option maxHeartbeats 2000000 in
theorem reduce_any (g cap n : Nat) (f : Nat → Int) (hn : n ≤ 100) (hmid : ∀ k, Mid (f k)) (hne : gcdF f n ≠ 0) (t : TypeId) (w : World) (h : w.heap[g]? = some (.cells (ints (rowF f n)).toArray t (0, 0))) :
    Calls Try.prog 108 #[.slice (some ⟨g, 0, none⟩) n cap] w fun e w' => (∃ v, e = .returned v) ∧ w'.heap[g]? = some (.cells (ints (rowF (fun p => Int.tdiv (f p) (gcdF f n : Nat)) n)).toArray t (0, 0)) ∧ Below g w w' := by
  have H0 := Lib.hid h
  have HMid := Lib.hid hmid
  have HG := Lib.hid (fun k => gcdF_le hmid k)
  clear h hmid
  go_enter Try.func108, Try.ntmps108
  go_wp2_with fail
  go_loopw [2, 8] (fun u z wr => ∃ (k m : Nat), k ≤ n ∧ u = .int .i64 (gcdF f k : Nat) ∧ z = .int .i64 k ∧ wr = w.drewN m) (fun _ z _ => n - (intOf z).toNat)
  case atStart => exact ⟨0, 0, by omega, rfl, rfl, rfl⟩
  case round =>
    obtain ⟨k, m, hk, rfl, rfl, hw⟩ := hrel
    have HW := Lib.hid hw
    by_cases hlt : k < n
    · have b0 : (0 : Int) ≤ (k : Int) := by omega
      have b1 : (k : Int) < (n : Int) := by omega
      have hg : wr.heap[g]? = some (.cells (ints (rowF f n)).toArray t (0, 0)) := by rw [hw]; exact H0.out
      have c0 : wr.cell? ⟨g, k, none⟩ = some (.int .i64 (f k)) := (blk_cell hg).trans (rowF_at hlt)
      have hgk := HG.out k
      have HD := Lib.hid (divisor_any (gcdF f k : Nat) (f k) (by unfold Mid; omega) (HMid.out k) wr)
      have HN := Lib.hid (show gcdZ (gcdF f k : Nat) (f k) = gcdF f (k + 1) by unfold gcdZ; rw [Int.natAbs_natCast]; rfl)
      rw [HN.out] at HD
      generalize gcdF f k = x at *
      generalize f k = y at *
      clear hg hw hgk
      go_wp2_with fail
      refine HD.out.mono ?_
      rintro e w2 ⟨rfl, m2, hm2⟩
      have HM2 := Lib.hid hm2
      clear hm2
      go_wp2_with fail
      go_roundw
      case rel => exact ⟨k + 1, m + m2, by omega, rfl, by go_num, by rw [HM2.out, HW.out]; exact World.drewN_drewN _ _ _⟩
      case measure => simp [intOf]; omega
    · have hkn : k = n := by omega
      subst hkn
      have hg : wr.heap[g]? = some (.cells (ints (rowF f k)).toArray t (0, 0)) := by rw [hw]; exact H0.out
      have HB0 := Lib.hid (show Below g w wr by rw [hw]; exact bdN' (Below.refl _ _) m)
      have HG0 := Lib.hid hg
      obtain ⟨d, hd⟩ : ∃ d, gcdF f k = d := ⟨_, rfl⟩
      rw [hd] at hne ⊢
      have e1 : ((d : Int) == 0) = false := by simp; omega
      have e1' : (d == 0) = false := by simp; omega
      have hdz : (d : Int) ≠ 0 := by omega
      have HDD := Lib.hid hd
      obtain ⟨wo, hwo⟩ : ∃ wo : World, wo = wr := ⟨_, rfl⟩
      clear hlt hw hg hd
      go_wp2_with fail
      rw [← hwo] at HB0 HG0 ⊢
      clear hwo
      go_loopw [18] (fun z wr => ∃ j : Nat, j ≤ k ∧ z = .int .i64 j ∧ wr.heap[g]? = some (.cells (ints (rowF (partF f (d : Int) j) k)).toArray t (0, 0)) ∧ Below g wo wr) (fun z _ => k - (intOf z).toNat)
      case atStart => exact ⟨0, by omega, rfl, by rw [HG0.out, rowF_congr (F := partF f (d : Int) 0) (G := f) fun p _ => if_neg (by omega)], Below.refl _ _⟩
      case round =>
        obtain ⟨j, hj, rfl, hg, hb⟩ := hrel
        by_cases hlt : j < k
        · have b0 : (0 : Int) ≤ (j : Int) := by omega
          have b1 : (j : Int) < (k : Int) := by omega
          have c0 : wr.cell? ⟨g, j, none⟩ = some (.int .i64 (f j)) := (blk_cell hg).trans ((rowF_at hlt).trans (by unfold partF; rw [if_neg (by omega)]))
          have f0 := blk_free hg j
          have q1 : IntKind.i64.wrap (Int.tdiv (f j) (d : Int)) = Int.tdiv (f j) (d : Int) := wrapI_mid (tdiv_mid (HMid.out j) _)
          have q2 : wrap64 (Int.tdiv (f j) (d : Int)) = Int.tdiv (f j) (d : Int) := wrap_mid (tdiv_mid (HMid.out j) _)
          have H1 := Lib.hid (show (wr.setCell ⟨g, j, none⟩ (.int .i64 (Int.tdiv (f j) (d : Int)))).heap[g]? = some (.cells (ints (rowF (partF f (d : Int) (j + 1)) k)).toArray t (0, 0)) by
            rw [blk_set hg j _, rowF_set (G := partF f (d : Int) (j + 1)) (by unfold partF; rw [if_pos (Nat.lt_succ_self j)]) (fun p hp => by unfold partF; split <;> split <;> first | rfl | omega)])
          have HB := Lib.hid (hb.setCell (p := ⟨g, j, none⟩) (Nat.le_refl _) (.int .i64 (Int.tdiv (f j) (d : Int))))
          clear hg hb
          go_wp2_with fail
          go_roundw
          case rel => exact ⟨j + 1, by omega, by go_num, H1.out, HB.out⟩
          case measure => simp [intOf]; omega
        · have hjk : j = k := by omega
          subst hjk
          have HX := Lib.hid (show wr.heap[g]? = some (.cells (ints (rowF (fun p => Int.tdiv (f p) (d : Int)) j)).toArray t (0, 0)) by rw [hg, rowF_congr (F := partF f (d : Int) j) (G := fun p => Int.tdiv (f p) (d : Int)) fun p hp => if_pos hp])
          have HB := Lib.hid hb
          clear hg hb hlt
          go_wp2_with fail
          refine bodyPost_end (results_none rfl _ _ _) rfl ⟨⟨_, rfl⟩, by rw [HDD.out]; exact HX.out, HB0.out.trans HB.out⟩
theorem eEqn : Elem Try.prog 96 3 (.int .i64 0) 1 8 := ⟨Try.underlying96, by kernel_rfl, rfl, by decide, by decide⟩
/-- A number of an equation: at most 10^9 in size. -/
def Sm (x : Int) : Prop := -1000000000 ≤ x ∧ x ≤ 1000000000
def rawF (fa fb : Nat → Int) (k p : Nat) : Int := fa p * fb k - fb p * fa k
def elimF (fa fb : Nat → Int) (k n p : Nat) : Int := Int.tdiv (rawF fa fb k p) (gcdF (rawF fa fb k) n : Nat)
theorem sm_mul {x y : Int} (hx : Sm x) (hy : Sm y) : -1000000000000000000 ≤ x * y ∧ x * y ≤ 1000000000000000000 := by
  have := mul_le (A := 1000000000) (B := 1000000000) hx hy
  omega
def sofar (F : Nat → Int) (k p : Nat) : Int := if p < k then F p else 0
set_option maxRecDepth 8000 in
set_option maxHeartbeats 4000000 in
theorem without_any (ga ca gb cb n k : Nat) (fa fb : Nat → Int) (hk : k < n) (hn : n ≤ 100) (hfa : ∀ p, Sm (fa p)) (hfb : ∀ p, Sm (fb p)) (hne : gcdF (rawF fa fb k) n ≠ 0) (w : World) (ha : w.heap[ga]? = some (.cells (ints (rowF fa n)).toArray 3 (0, 0))) (hb : w.heap[gb]? = some (.cells (ints (rowF fb n)).toArray 3 (0, 0))) :
    Calls Try.prog 106 #[.slice (some ⟨ga, 0, none⟩) n ca, .int .i64 k, .slice (some ⟨gb, 0, none⟩) n cb] w fun e w' => ∃ g c', e = .returned (.slice (some ⟨g, 0, none⟩) n c') ∧ w.heap.size ≤ g ∧ w'.heap[g]? = some (.cells (ints (rowF (elimF fa fb k n) n)).toArray 3 (0, 0)) ∧ Below w.heap.size w w' := by
  obtain ⟨i0, hi0, hz0, hz1, hz2⟩ := info_parts eEqn.hi
  have HA := Lib.hid ha
  have HB := Lib.hid hb
  have HFA := Lib.hid hfa
  have HFB := Lib.hid hfb
  have HRM := Lib.hid (show ∀ p, Mid (rawF fa fb k p) from fun p => by
    have h1 := sm_mul (hfa p) (hfb k)
    have h2 := sm_mul (hfb p) (hfa k)
    unfold Mid rawF
    omega)
  have HRD := Lib.hid (fun g cap t w h => reduce_any g cap n (rawF fa fb k) hn HRM.out hne t w h)
  obtain ⟨s, hs⟩ : ∃ s, w.heap.size = s := ⟨_, rfl⟩
  have HS := Lib.hid hs
  have hga : ga < s := by have := lt_of_block' ha; omega
  have hgb : gb < s := by have := lt_of_block' hb; omega
  clear ha hb hfa hfb hne hs
  go_enter Try.func106, Try.ntmps106
  go_wp2_with ((at_make; refine wpList_make_full _ rfl (.tmp 10) (.tmp 10) 96 rfl w.heap.size 3 i0 (.int .i64 0) 1 Try.underlying96 hi0 hz0 hz1 .i64 .i64 _ _ n rfl rfl rfl rfl (by rw [hz2]; omega) (by simp only [maxLen]; omega) (Nat.le_refl _) ?_; intro w3 hown hgr; have MD := Lib.hid (made_rowF hown hgr); clear hown hgr))
  rw [HS.out] at MD ⊢
  go_loopw [14] (fun z wr => ∃ j : Nat, j ≤ n ∧ z = .int .i64 j ∧ wr.heap[s]? = some (.cells (ints (rowF (sofar (rawF fa fb k) j) n)).toArray 3 (0, 0)) ∧ Below s w wr) (fun z _ => n - (intOf z).toNat)
  case atStart => exact ⟨0, by omega, rfl, by rw [MD.out.2, rowF_congr (F := sofar (rawF fa fb k) 0) (G := fun _ => 0) (fun p _ => if_neg (by omega))], MD.out.1⟩
  case round =>
    obtain ⟨j, hj, rfl, hg, hbl⟩ := hrel
    by_cases hlt : j < n
    · have b0 : (0 : Int) ≤ (j : Int) := by omega
      have b1 : (j : Int) < (n : Int) := by omega
      have b2 : (0 : Int) ≤ (k : Int) := by omega
      have b3 : (k : Int) < (n : Int) := by omega
      have hwa := (hbl.block ga hga).trans HA.out
      have hwb := (hbl.block gb hgb).trans HB.out
      have c1 : wr.cell? ⟨ga, j, none⟩ = some (.int .i64 (fa j)) := (blk_cell hwa).trans (rowF_at hlt)
      have c2 : wr.cell? ⟨ga, k, none⟩ = some (.int .i64 (fa k)) := (blk_cell hwa).trans (rowF_at hk)
      have c3 : wr.cell? ⟨gb, j, none⟩ = some (.int .i64 (fb j)) := (blk_cell hwb).trans (rowF_at hlt)
      have c4 : wr.cell? ⟨gb, k, none⟩ = some (.int .i64 (fb k)) := (blk_cell hwb).trans (rowF_at hk)
      have c0 : wr.cell? ⟨s, j, none⟩ = some (.int .i64 (sofar (rawF fa fb k) j j)) := (blk_cell hg).trans (rowF_at hlt)
      have f0 := blk_free hg j
      have m1 := sm_mul (HFA.out j) (HFB.out k)
      have m2 := sm_mul (HFB.out j) (HFA.out k)
      have q1 : IntKind.i64.wrap (fa j * fb k) = fa j * fb k := wrapI_mid (by unfold Mid; omega)
      have q2 : IntKind.i64.wrap (fb j * fa k) = fb j * fa k := wrapI_mid (by unfold Mid; omega)
      have q3 : IntKind.i64.wrap (fa j * fb k - fb j * fa k) = fa j * fb k - fb j * fa k := wrapI_mid (by unfold Mid; omega)
      have q4 : wrap64 (fa j * fb k) = fa j * fb k := wrap_mid (by unfold Mid; omega)
      have q5 : wrap64 (fb j * fa k) = fb j * fa k := wrap_mid (by unfold Mid; omega)
      have q6 : wrap64 (fa j * fb k - fb j * fa k) = fa j * fb k - fb j * fa k := wrap_mid (by unfold Mid; omega)
      have H1 := Lib.hid (show (wr.setCell ⟨s, j, none⟩ (.int .i64 (fa j * fb k - fb j * fa k))).drew.heap[s]? = some (.cells (ints (rowF (sofar (rawF fa fb k) (j + 1)) n)).toArray 3 (0, 0)) by
        show (wr.setCell ⟨s, j, none⟩ (.int .i64 (fa j * fb k - fb j * fa k))).heap[s]? = _
        rw [blk_set hg j _, rowF_set (G := sofar (rawF fa fb k) (j + 1)) (by unfold sofar; rw [if_pos (Nat.lt_succ_self j)]; rfl) (fun p hp => by unfold sofar; split <;> split <;> first | rfl | omega)])
      have HBZ := Lib.hid ((hbl.setCell (p := ⟨s, j, none⟩) (Nat.le_refl _) (.int .i64 (fa j * fb k - fb j * fa k))).drew)
      clear hg hbl hwa hwb m1 m2
      go_wp2_with fail
      go_region
      go_wp2_with fail
      go_roundw
      case rel => exact ⟨j + 1, by omega, by go_num, H1.out, HBZ.out⟩
      case measure => simp [intOf]; omega
    · have hjn : j = n := by omega
      subst hjn
      rw [rowF_congr (F := sofar (rawF fa fb k) j) (G := rawF fa fb k) fun p hp => if_pos hp] at hg
      have HD := Lib.hid (HRD.out s j _ wr hg)
      have HBL := Lib.hid hbl
      clear hlt hg hbl
      go_wp2_with fail
      refine HD.out.mono ?_
      rintro e w2 ⟨⟨v, rfl⟩, hg2, hb2⟩
      have G2 := Lib.hid hg2
      have B2 := Lib.hid (HBL.out.trans hb2)
      clear hg2 hb2
      go_wp2_with fail
      go_ret
      exact ⟨s, j, rfl, by rw [HS.out]; exact Nat.le_refl _, G2.out, by rw [HS.out]; exact B2.out⟩
end Go.Proofs.Ytegehfcnclpdeaa

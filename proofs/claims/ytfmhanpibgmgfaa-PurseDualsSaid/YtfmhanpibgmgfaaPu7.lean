/-
  Excesses of a pay: the walks of shares and excesses. Conditions: the lists can be read; numbers that are not too great.
-/
import Derived.Test.YtfmhanpibgmgfaaPu6
import Derived.RegionTactic
namespace Go.Proofs.Ytfmhanpibgmgfaa
open Go.RowKit
set_option linter.unusedVariables false

theorem eShare : Elem Try.prog 92 95 (.agg #[.int .i64 0, .int .i64 0]) 2 16 := ⟨Try.underlying92, by kernel_rfl, rfl, by decide, by decide⟩
theorem eInt0 : Elem Try.prog 22 3 (.int .i64 0) 1 8 := ⟨Try.underlying22, by kernel_rfl, rfl, by decide, by decide⟩
def shF (p : List Int) : Nat → Int := pairF fun i => ((i : Int), nth p i)
set_option maxRecDepth 8000 in
set_option maxHeartbeats 2000000 in
theorem shares_any (den : Int) (A : Option Addr) (p : List Int) (c : Nat) (hn : p.length ≤ 100) (w : World) (hr : Rd w w.heap.size A (ints p)) :
    Calls Try.prog 98 #[.agg #[.int .i64 den, .slice A p.length c]] w fun e w' => ∃ g, e = .returned (.slice (some ⟨g, 0, none⟩) p.length p.length) ∧ w.heap.size ≤ g ∧ w'.heap[g]? = some (.cells (ints (rowF (shF p) (p.length * 2))).toArray 95 (0, 0)) ∧ Below w.heap.size w w' := by
  obtain ⟨W, hW, h0, h1, hs1, hb0⟩ := one_pt w (.int .i64 den) (.slice A p.length c) 44
  have HW := Lib.hid hW
  have HB := Lib.hid hb0
  have HR := Lib.hid ((hr.below hb0 (Nat.le_refl _)).more (Nat.le_of_lt hs1))
  have HC1 := Lib.hid h1
  obtain ⟨b, hbz⟩ : ∃ b, w.heap.size = b := ⟨_, rfl⟩
  rw [hbz] at h0 h1 HB HC1
  have HBz := Lib.hid hbz
  obtain ⟨s, hs⟩ : ∃ s, W.heap.size = s := ⟨_, rfl⟩
  have HS := Lib.hid hs
  have hbs : b < s := by omega
  obtain ⟨n, hnn⟩ : ∃ n, p.length = n := ⟨_, rfl⟩
  have HN := Lib.hid hnn
  rw [hnn] at hn h1 HW HC1 ⊢
  obtain ⟨i0, hi0, hz0, hz1, hz2⟩ := info_parts eShare.hi
  clear hW hb0 hr hs hbz hs1 hnn
  go_enter Try.func98, Try.ntmps98
  go_wp2_with ((at_make; rw [HW.out, HBz.out]; refine wpList_make_full _ rfl (.tmp 8) (.tmp 8) 92 rfl W.heap.size 95 i0 (.agg #[.int .i64 0, .int .i64 0]) 2 Try.underlying92 hi0 hz0 hz1 .i64 .i64 _ _ n rfl rfl rfl rfl (by rw [hz2]; omega) (by simp only [maxLen]; omega) (Nat.le_refl _) ?_; intro w3 hown hgr; have MD := Lib.hid (made_rats hown hgr); clear hown hgr; have m1 : w3.cell? ⟨b, 1, none⟩ = some (.slice A n c) := (MD.out.1.cell (p := ⟨b, 1, none⟩) (by rw [HS.out]; exact hbs)).trans HC1.out))
  rw [HS.out] at MD ⊢
  go_loopw [13] (fun z wr => ∃ j : Nat, j ≤ n ∧ z = .int .i64 j ∧ wr.heap[s]? = some (.cells (ints (rowF (sofar (shF p) (j * 2)) (n * 2))).toArray 95 (0, 0)) ∧ Below s W wr) (fun z _ => n - (intOf z).toNat)
  case atStart => exact ⟨0, by omega, rfl, by rw [MD.out.2, rowF_congr (F := sofar (shF p) (0 * 2)) (G := fun _ => 0) (fun q _ => if_neg (by omega))], MD.out.1⟩
  case round =>
    obtain ⟨j, hj, rfl, hg, hbl⟩ := hrel
    by_cases hlt : j < n
    · have b0 : (0 : Int) ≤ (j : Int) := by omega
      have b1 : (j : Int) < (n : Int) := by omega
      have k1 : wr.cell? ⟨b, 1, none⟩ = some (.slice A n c) := (hbl.cell (p := ⟨b, 1, none⟩) hbs).trans HC1.out
      obtain ⟨b2, o2, d, rfl, hd, hc⟩ := (HR.out.below hbl (by rw [HS.out]; exact Nat.le_refl _)).int j (by rw [HN.out]; exact hlt)
      have HV0 := Lib.hid (show shF p (j * 2) = (j : Int) from pairF_0 _ _)
      have HV1 := Lib.hid (show shF p (j * 2 + 1) = d from (pairF_1 _ _).trans (nth_get hd.out))
      obtain ⟨d0, f0, d1, f1, HX2⟩ := put2at (F := shF p) (j := j) (n := n) hlt hg HV0.out HV1.out
      have HBn := Lib.hid (hbl.setCell (p := ⟨s, j * 2, none⟩) (Nat.le_refl _) (.int .i64 (j : Int)))
      have HBm := Lib.hid (HBn.out.setCell (p := ⟨s, j * 2 + 1, none⟩) (Nat.le_refl _) (.int .i64 d))
      clear hg hbl hd
      go_wp2_with fail
      go_roundw
      case rel => exact ⟨j + 1, by omega, by go_num, HX2.out, HBm.out⟩
      case measure => simp [intOf]; omega
    · have hjn : j = n := by omega
      subst hjn
      have HG := Lib.hid (show wr.heap[s]? = some (.cells (ints (rowF (shF p) (j * 2))).toArray 95 (0, 0)) by rw [hg, rowF_congr (F := sofar (shF p) (j * 2)) (G := shF p) fun q hq => if_pos hq])
      have HBL := Lib.hid (HB.out.trans (hbl.mono (Nat.le_of_lt hbs)))
      clear hlt hg hbl
      go_wp2_with fail
      go_ret
      exact ⟨s, rfl, by rw [HBz.out]; exact Nat.le_of_lt hbs, HG.out, by rw [HBz.out]; exact HBL.out⟩

/-- The excesses while they are being reckoned: up to the group g, of which k players have been seen. -/
def pexF (v : List Int) (den : Int) (p : List Int) (g k q : Nat) : Int := if q < g then excF v den p q else if q = g then den * nth v g - getsF (nth p) g k else 0
theorem pex_0 (v : List Int) (den : Int) (p : List Int) (g : Nat) : pexF v den p g 0 g = den * nth v g := by
  unfold pexF
  rw [if_neg (by omega), if_pos rfl]
  show _ - (0 : Int) = _
  omega
theorem pex_at (v : List Int) (den : Int) (p : List Int) (g k : Nat) : pexF v den p g k g = den * nth v g - getsF (nth p) g k := by
  unfold pexF
  rw [if_neg (by omega), if_pos rfl]
theorem pex_off (v : List Int) (den : Int) (p : List Int) (g k k' q : Nat) (h : q ≠ g) : pexF v den p g k q = pexF v den p g k' q := by
  unfold pexF
  by_cases h1 : q < g
  · rw [if_pos h1, if_pos h1]
  · rw [if_neg h1, if_neg h1, if_neg h, if_neg h]
theorem pex_else (v : List Int) (den : Int) (p : List Int) (g k q : Nat) (h : q ≠ g) : pexF v den p g k q = if q < g then excF v den p q else 0 := by
  unfold pexF
  by_cases h1 : q < g
  · rw [if_pos h1, if_pos h1]
  · rw [if_neg h1, if_neg h1, if_neg h]
theorem pex_next (v : List Int) (den : Int) (p : List Int) (g q : Nat) : pexF v den p g p.length q = if q < g + 1 then excF v den p q else 0 := by
  unfold pexF
  by_cases h : q < g
  · rw [if_pos h, if_pos (by omega)]
  · rw [if_neg h]
    by_cases h2 : q = g
    · subst h2
      rw [if_pos rfl, if_pos (by omega)]
      rfl
    · rw [if_neg h2, if_neg (by omega)]
theorem gets_in {p : Nat → Int} {g k : Nat} (h : g.testBit k = true) : getsF p g (k + 1) = getsF p g k + p k := by
  show getsF p g k + (if g.testBit k then p k else 0) = _
  rw [if_pos h]
theorem gets_out {p : Nat → Int} {g k : Nat} (h : g.testBit k = false) : getsF p g (k + 1) = getsF p g k := by
  show getsF p g k + (if g.testBit k then p k else 0) = _
  rw [if_neg (by rw [h]; simp), Int.add_zero]
theorem gets_le {p : List Int} {g k : Nat} (hp : upB 10000000 p = true) (hk : k ≤ 40) : -400000000 ≤ getsF (nth p) g k ∧ getsF (nth p) g k ≤ 400000000 := by
  have h := sI_abs (f := fun i => if g.testBit i then nth p i else 0) (B := 10000000) (n := k) fun i hi => by
    have := upB_nth hp (by omega) i
    show _ ≤ (if g.testBit i then nth p i else 0) ∧ (if g.testBit i then nth p i else 0) ≤ _
    split <;> omega
  have h2 : (k : Int) ≤ 40 := by omega
  unfold getsF
  omega
theorem den_le {den x : Int} (h1 : 1 ≤ den) (h2 : den ≤ 1000) (hx : -1000 ≤ x ∧ x ≤ 1000) : -1000000 ≤ den * x ∧ den * x ≤ 1000000 := by
  have := mul_le (A := 1000) (B := 1000) (u := den) (v := x) (by omega) hx
  omega
set_option maxRecDepth 8000 in
set_option maxHeartbeats 4000000 in
theorem excesses_any (Av : Option Addr) (v : List Int) (cv : Nat) (den : Int) (A : Option Addr) (p : List Int) (c : Nat) (hL : v.length ≤ 32) (hv : upB 1000 v = true) (hn : p.length ≤ 5) (hp : upB 10000000 p = true) (hd1 : 1 ≤ den) (hd2 : den ≤ 1000) (w : World) (hrv : Rd w w.heap.size Av (ints v)) (hr : Rd w w.heap.size A (ints p)) :
    Calls Try.prog 77 #[.slice Av v.length cv, .agg #[.int .i64 den, .slice A p.length c]] w fun e w' => ∃ g, e = .returned (.slice (some ⟨g, 0, none⟩) v.length v.length) ∧ w.heap.size ≤ g ∧ w'.heap[g]? = some (.cells (ints (rowF (excF v den p) v.length)).toArray 3 (0, 0)) ∧ Below w.heap.size w w' := by
  obtain ⟨W, hW, h0, h1, hs1, hb0⟩ := one_pt w (.int .i64 den) (.slice A p.length c) 44
  have HW := Lib.hid hW
  have HB := Lib.hid hb0
  have HC0 := Lib.hid h0
  have HSh := Lib.hid (shares_any den A p c (by omega) W ((hr.below hb0 (Nat.le_refl _)).more (Nat.le_of_lt hs1)))
  have HRv := Lib.hid ((hrv.below hb0 (Nat.le_refl _)))
  have HV := Lib.hid hv
  have HP := Lib.hid hp
  obtain ⟨b, hbz⟩ : ∃ b, w.heap.size = b := ⟨_, rfl⟩
  have HBz := Lib.hid hbz
  rw [hbz] at h0 h1 HB HRv hs1
  obtain ⟨n, hnn⟩ : ∃ n, p.length = n := ⟨_, rfl⟩
  obtain ⟨L, hLL⟩ : ∃ L, v.length = L := ⟨_, rfl⟩
  have HN := Lib.hid hnn
  have HLn := Lib.hid hLL
  rw [hnn] at hn h1 HW HSh ⊢
  rw [hLL] at hL ⊢
  obtain ⟨i0, hi0, hz0, hz1, hz2⟩ := info_parts eInt0.hi
  have hL1 : L ≤ 32 := hL
  clear hW hb0 hr hrv hbz hnn hLL hv hp
  go_enter Try.func77, Try.ntmps77
  go_wp2_with fail
  rw [HW.out, HBz.out]
  refine HSh.out.mono ?_
  rintro e w1 ⟨gs, rfl, hgs, hg, hb⟩
  have HG1 := Lib.hid hg
  have HB1 := Lib.hid (HB.out.trans (hb.mono (Nat.le_of_lt hs1)))
  have m0 : w1.cell? ⟨b, 0, none⟩ = some (.int .i64 den) := (hb.cell (p := ⟨b, 0, none⟩) hs1).trans h0
  have M0 := Lib.hid m0
  have HRv1 := Lib.hid (HRv.out.below hb (Nat.le_of_lt hs1))
  obtain ⟨s, hs⟩ : ∃ s, w1.heap.size = s := ⟨_, rfl⟩
  have HS := Lib.hid hs
  have hgss : gs < s := by rw [← hs]; exact lt_of_block' hg
  have hbs : b < s := by have := hb.size; omega
  clear hb hg hs hgs h0 h1
  go_wp2_with ((at_make; refine wpList_make_full _ rfl (.tmp 13) (.tmp 13) 22 rfl w1.heap.size 3 i0 (.int .i64 0) 1 Try.underlying22 hi0 hz0 hz1 .i64 .i64 _ _ L rfl rfl rfl rfl (by rw [hz2]; omega) (by simp only [maxLen]; omega) (Nat.le_refl _) ?_; intro w3 hown hgr; have MD := Lib.hid (made_rowF hown hgr); clear hown hgr))
  rw [HS.out] at MD ⊢
  go_loopw [17] (fun z wr => ∃ g : Nat, g ≤ L ∧ z = .int .i64 (g : Int) ∧ wr.heap[s]? = some (.cells (ints (rowF (fun q => if q < g then excF v den p q else 0) L)).toArray 3 (0, 0)) ∧ Below s w1 wr) (fun z _ => L - (intOf z).toNat)
  case atStart => exact ⟨0, by omega, rfl, by rw [MD.out.2]; rfl, MD.out.1⟩
  case round =>
    obtain ⟨g, hgL, rfl, hg, hbl⟩ := hrel
    by_cases hlt : g < L
    · have b0 : (0 : Int) ≤ (g : Int) := by omega
      have b1 : (g : Int) < (L : Int) := by omega
      have k0 : wr.cell? ⟨b, 0, none⟩ = some (.int .i64 den) := (hbl.cell (p := ⟨b, 0, none⟩) hbs).trans M0.out
      obtain ⟨b2, o2, d, hA2, hd, hc⟩ := (HRv1.out.below hbl (Nat.le_of_lt hbs)).int g (by rw [HLn.out]; exact hlt)
      subst hA2
      have c5 : wr.cell? ⟨s, g, none⟩ = some (.int .i64 0) := (blk_cell hg).trans ((rowF_at hlt).trans (by rw [if_neg (by omega)]))
      have f5 := blk_free hg g
      have hvb := upB_nth HV.out (by omega) g
      have HD := Lib.hid (nth_get hd.out)
      rw [HD.out] at hvb
      have hdd := den_le hd1 hd2 hvb
      have q1 : IntKind.i64.wrap (den * d) = den * d := wrapI_mid (by unfold Mid; omega)
      have HX1 := Lib.hid (show (wr.setCell ⟨s, g, none⟩ (.int .i64 (den * d))).drew.heap[s]? = some (.cells (ints (rowF (pexF v den p g 0) L)).toArray 3 (0, 0)) by
        show (wr.setCell ⟨s, g, none⟩ (.int .i64 (den * d))).heap[s]? = _
        rw [blk_set hg g _, rowF_set (G := pexF v den p g 0) (by rw [pex_0, HD.out]) (fun q hq => pex_else v den p g 0 q hq)])
      have HBZ := Lib.hid ((hbl.setCell (p := ⟨s, g, none⟩) (Nat.le_refl _) (.int .i64 (den * d))).drew)
      clear hg hbl hd
      go_wp2_with fail
      go_region
      go_wp2_with fail
      obtain ⟨wo, hwo⟩ : ∃ wo : World, wo = (wr.setCell ⟨s, g, none⟩ (.int .i64 (den * d))).drew := ⟨_, rfl⟩
      rw [← hwo] at HX1 HBZ ⊢
      clear hwo
      go_loopw [32] (fun z wr => ∃ k : Nat, k ≤ n ∧ z = .int .i64 (k : Int) ∧ wr.heap[s]? = some (.cells (ints (rowF (pexF v den p g k) L)).toArray 3 (0, 0)) ∧ Below s w1 wr) (fun z _ => n - (intOf z).toNat)
      case atStart => exact ⟨0, by omega, rfl, HX1.out, HBZ.out⟩
      case round =>
        obtain ⟨k, hkn, rfl, hg, hbl⟩ := hrel
        by_cases hk : k < n
        · have hgs2 := (hbl.block gs hgss).trans HG1.out
          have c6 : wr.cell? ⟨gs, k * 2, none⟩ = some (.int .i64 (k : Int)) := (blk_cell hgs2).trans ((rowF_at (by omega)).trans (congrArg (fun z => some (Value.int .i64 z)) (pairF_0 _ _)))
          have c7 : wr.cell? ⟨gs, k * 2 + 1, none⟩ = some (.int .i64 (nth p k)) := (blk_cell hgs2).trans ((rowF_at (by omega)).trans (congrArg (fun z => some (Value.int .i64 z)) (pairF_1 _ _)))
          obtain ⟨W2, hW2, a0, a1, hs2, hb2⟩ := one_pt wr (.int .i64 (k : Int)) (.int .i64 (nth p k)) 95
          have HW2 := Lib.hid hW2
          have hsr := lt_of_block' hg
          have hg2 := (hb2.block s hsr).trans hg
          have c8 : W2.cell? ⟨s, g, none⟩ = some (.int .i64 (pexF v den p g k g)) := (blk_cell hg2).trans (rowF_at hlt)
          have f8 := blk_free hg2 g
          have HIs := Lib.hid (isIn_any k g (by omega) (by omega) W2)
          have HB2 := Lib.hid (hbl.trans (hb2.mono (Nat.le_of_lt hsr)))
          have hgle := gets_le (g := g) HP.out (show k ≤ 40 by omega)
          have hgle2 := gets_le (g := g) HP.out (show k + 1 ≤ 40 by omega)
          have hvb := upB_nth HV.out (by omega) g
          have hdd := den_le hd1 hd2 hvb
          have HAt := Lib.hid (pex_at v den p g k)
          have HAt2 := Lib.hid (pex_at v den p g (k + 1))
          cases ht : g.testBit k
          · have HGo := Lib.hid (gets_out (p := nth p) ht)
            have HX3 := Lib.hid (show W2.heap[s]? = some (.cells (ints (rowF (pexF v den p g (k + 1)) L)).toArray 3 (0, 0)) by
              rw [hg2, rowF_congr (F := pexF v den p g k) (G := pexF v den p g (k + 1)) fun q _ => by
                by_cases hq : q = g
                · subst hq; rw [HAt.out, HAt2.out, HGo.out]
                · exact pex_off v den p g k (k + 1) q hq])
            rw [ht] at HIs
            clear hW2 hb2 hg hg2 hbl hgle hgle2 hvb hdd ht
            have b3 : (k : Int) < (n : Int) := by omega
            have b4 : (0 : Int) ≤ (k : Int) := by omega
            go_wp2_with fail
            rw [HW2.out]
            refine HIs.out.mono ?_
            rintro e w4 ⟨rfl, rfl⟩
            go_wp2_with fail
            go_roundw
            case rel => exact ⟨k + 1, by omega, by go_num, HX3.out, HB2.out⟩
            case measure => simp [intOf]; omega
          · have HGo := Lib.hid (gets_in (p := nth p) ht)
            have hex : pexF v den p g (k + 1) g = pexF v den p g k g - nth p k := by rw [HAt.out, HAt2.out, HGo.out]; omega
            have HX3 := Lib.hid (show (W2.setCell ⟨s, g, none⟩ (.int .i64 (pexF v den p g k g - nth p k))).drew.heap[s]? = some (.cells (ints (rowF (pexF v den p g (k + 1)) L)).toArray 3 (0, 0)) by
              show (W2.setCell ⟨s, g, none⟩ (.int .i64 (pexF v den p g k g - nth p k))).heap[s]? = _
              rw [blk_set hg2 g _, rowF_set (G := pexF v den p g (k + 1)) hex.symm (fun q hq => pex_off v den p g (k + 1) k q hq)])
            have HB3 := Lib.hid ((HB2.out.setCell (p := ⟨s, g, none⟩) (Nat.le_refl _) (.int .i64 (pexF v den p g k g - nth p k))).drew)
            rw [ht] at HIs
            have q7 : IntKind.i64.wrap (pexF v den p g k g - nth p k) = pexF v den p g k g - nth p k := wrapI_mid (by
              rw [← hex, HAt2.out]
              unfold Mid
              omega)
            have q8 : wrap64 (pexF v den p g k g - nth p k) = pexF v den p g k g - nth p k := wrap_mid (by
              rw [← hex, HAt2.out]
              unfold Mid
              omega)
            generalize pexF v den p g k g = cur at *
            generalize nth p k = pk at *
            clear hW2 hb2 hg hg2 hbl hgle hgle2 hvb hdd ht hex
            have b3 : (k : Int) < (n : Int) := by omega
            have b4 : (0 : Int) ≤ (k : Int) := by omega
            go_wp2_with fail
            rw [HW2.out]
            refine HIs.out.mono ?_
            rintro e w4 ⟨rfl, rfl⟩
            go_wp2_with fail
            go_region
            go_wp2_with fail
            go_roundw
            case rel => exact ⟨k + 1, by omega, by go_num, HX3.out, HB3.out⟩
            case measure => simp [intOf]; omega
        · have hkn2 : k = n := by omega
          have HX2 := Lib.hid (show wr.heap[s]? = some (.cells (ints (rowF (fun q => if q < g + 1 then excF v den p q else 0) L)).toArray 3 (0, 0)) by
            rw [hg, hkn2, ← HN.out]
            rw [rowF_congr (F := pexF v den p g p.length) (G := fun q => if q < g + 1 then excF v den p q else 0) fun q _ => pex_next v den p g q])
          have HB2 := Lib.hid hbl
          subst hkn2
          clear hg hbl hk
          go_wp2_with fail
          go_roundw
          case rel => exact ⟨g + 1, by omega, by go_num, HX2.out, HB2.out⟩
          case measure => simp [intOf]; omega
    · have hjn : g = L := by omega
      subst hjn
      have HG := Lib.hid (show wr.heap[s]? = some (.cells (ints (rowF (excF v den p) g)).toArray 3 (0, 0)) by rw [hg, rowF_congr (F := fun q => if q < g then excF v den p q else 0) (G := excF v den p) fun q hq => if_pos hq])
      have HBL := Lib.hid (HB1.out.trans (hbl.mono (Nat.le_of_lt hbs)))
      clear hlt hg hbl
      go_wp2_with fail
      go_ret
      exact ⟨s, rfl, by rw [HBz.out]; exact Nat.le_of_lt hbs, HG.out, by rw [HBz.out]; exact HBL.out⟩
end Go.Proofs.Ytfmhanpibgmgfaa

/-
  The walk of Sights of package screen. No condition.
-/
import Derived.Test.YtcefcpplkcebjaaSc16
import Derived.RegionTactic
import Derived.Outline
namespace Go.Proofs.Ytcefcpplkcebjaa
open Go.RowKit
set_option linter.unusedVariables false

theorem made_ints {w w1 : World} {n : Nat} (h : w1.ownsRow w.heap.size 3 1 (.slice (some ⟨w.heap.size, 0, none⟩) n n) n (madeCells (Value.int .i64 0).cells (n * 1)).toList) (hg : w.grownBy w1 none) :
    Below w.heap.size w w1 ∧ w1.heap[w.heap.size]? = some (.cells (ints (List.replicate n 0)).toArray 3 (0, 0)) := by
  refine ⟨(Below.refl _ _).grown hg (Nat.le_refl _) (by simp), ?_⟩
  have hcells : (madeCells (Value.int .i64 0).cells (n * 1)).toList = ints (List.replicate n 0) := by
    rw [Nat.mul_one]
    exact (toList_madeCells_one (.int .i64 0) n).trans (by simp [ints])
  rw [← hcells]
  rcases h.2 with ⟨hv, _⟩ | ⟨g', cap, cur, hv, _, hg, _, _, hcs, htake⟩
  · cases hv
  · injection hv with h1 h2 h3
    injection h1 with h1
    injection h1 with h1
    subst h1; subst h3
    have : cur.toList = (madeCells (Value.int .i64 0).cells (n * 1)).toList := by rw [← htake, List.take_of_length_le (by simp [hcs])]
    rw [← this]
    simpa using hg
def LL (see : Nat → Nat → Bool) (n i k : Nat) : List Int := (List.range n).map fun j => ((if j < i then bitK (see j) n else if j = i then bitK (see i) k else 0 : Nat) : Int)
theorem LL_len (see : Nat → Nat → Bool) (n i k : Nat) : (LL see n i k).length = n := by simp [LL]
theorem LL_zero (see : Nat → Nat → Bool) (n : Nat) : LL see n 0 0 = List.replicate n 0 := by
  unfold LL
  refine List.ext_getElem (by simp) fun j h1 h2 => ?_
  simp [bitK]
theorem LL_next (see : Nat → Nat → Bool) (n i : Nat) : LL see n i n = LL see n (i + 1) 0 := by
  unfold LL
  refine List.map_congr_left fun j hj => ?_
  by_cases h1 : j < i
  · rw [if_pos h1, if_pos (by omega)]
  · by_cases h2 : j = i
    · subst h2
      rw [if_neg h1, if_pos rfl, if_pos (by omega)]
    · rw [if_neg h1, if_neg h2, if_neg (by omega)]
      by_cases h3 : j = i + 1
      · rw [if_pos h3]; rfl
      · rw [if_neg h3]
theorem LL_done (see : Nat → Nat → Bool) (n : Nat) : LL see n n 0 = (List.range n).map fun j => (bitK (see j) n : Int) := by
  unfold LL
  refine List.map_congr_left fun j hj => ?_
  rw [if_pos (List.mem_range.1 hj)]
theorem LL_at (see : Nat → Nat → Bool) {n i : Nat} (k : Nat) (hi : i < n) : (LL see n i k)[i]? = some (bitK (see i) k : Int) := by
  unfold LL
  rw [List.getElem?_map, List.getElem?_range hi, Option.map_some, if_neg (by omega), if_pos rfl]
theorem LL_no (see : Nat → Nat → Bool) {n i k : Nat} (h : see i k = false) : LL see n i (k + 1) = LL see n i k := by
  unfold LL
  simp [bitK, h]
theorem LL_yes (see : Nat → Nat → Bool) {n i k : Nat} (hi : i < n) (h : see i k = true) : (ints (LL see n i k)).toArray.setIfInBounds i (.int .i64 ((bitK (see i) k + 2 ^ k : Nat) : Int)) = (ints (LL see n i (k + 1))).toArray := by
  rw [List.setIfInBounds_toArray]
  congr 1
  refine List.ext_getElem? fun j => ?_
  rw [List.getElem?_set]
  unfold ints LL
  simp only [List.getElem?_map, List.length_map, List.length_range]
  by_cases hj : i = j
  · subst hj
    rw [if_pos rfl, if_pos hi, List.getElem?_range hi]
    simp [bitK, h]
  · rw [if_neg hj]
    by_cases hjn : j < n
    · rw [List.getElem?_range hjn]
      simp only [Option.map_some, Option.some.injEq, Value.int.injEq, true_and]
      by_cases h1 : j < i
      · rw [if_pos h1, if_pos h1]
      · rw [if_neg h1, if_neg h1, if_neg (by omega), if_neg (by omega)]
    · rw [List.getElem?_eq_none (by simpa using hjn)]
      rfl
theorem blk_set {w : World} {g : Nat} {t : TypeId} {cs : Array Value} (h : w.heap[g]? = some (.cells cs t (0, 0))) (i : Nat) (u : Value) : (w.setCell ⟨g, i, none⟩ u).heap[g]? = some (.cells (cs.setIfInBounds i u) t (0, 0)) := by
  simp [World.setCell, Array.getElem?_modify, h]
theorem blk_free {w : World} {g : Nat} {t : TypeId} {cs : Array Value} (h : w.heap[g]? = some (.cells cs t (0, 0))) (i : Nat) : w.frozen? ⟨g, i, none⟩ = false := by
  simp [World.frozen?, h]
theorem stored (see : Nat → Nat → Bool) {w0 w2 : World} {g b n i k N : Nat} {x0 y0 : Value} (hk : k < 16) (hi : i < n) (hN : bitK (see i) k = N) (hlt : N < 2 ^ k) (h : see i k = true) (BK : w2.heap[g]? = some (.cells (ints (LL see n i k)).toArray 3 (0, 0))) (B : Below g w0 w2) (G0 : w2.cell? ⟨b, 0, none⟩ = some x0) (G1 : w2.cell? ⟨b, 1, none⟩ = some y0) (G2 : b < w2.heap.size) (hne : g < b) :
    (w2.setCell ⟨g, i, none⟩ (.int .i64 (bits .or .i64 (N : Int) (wrap64 (2 ^ k))))).drew.heap[g]? = some (.cells (ints (LL see n i (k + 1))).toArray 3 (0, 0)) ∧ Below g w0 (w2.setCell ⟨g, i, none⟩ (.int .i64 (bits .or .i64 (N : Int) (wrap64 (2 ^ k))))).drew ∧ (w2.setCell ⟨g, i, none⟩ (.int .i64 (bits .or .i64 (N : Int) (wrap64 (2 ^ k))))).drew.cell? ⟨b, 0, none⟩ = some x0 ∧ (w2.setCell ⟨g, i, none⟩ (.int .i64 (bits .or .i64 (N : Int) (wrap64 (2 ^ k))))).drew.cell? ⟨b, 1, none⟩ = some y0 ∧ b < (w2.setCell ⟨g, i, none⟩ (.int .i64 (bits .or .i64 (N : Int) (wrap64 (2 ^ k))))).drew.heap.size := by
  have h2 := pow_le (Nat.le_of_lt hk)
  have e : wrap64 (2 ^ k) = ((2 ^ k : Nat) : Int) := by
    have e1 : (2 : Int) ^ k = ((2 ^ k : Nat) : Int) := by simp
    rw [e1]
    generalize 2 ^ k = M at h2 ⊢
    exact IntWalk.wrap64_in _ ⟨by omega, by omega⟩
  rw [e, or_bit hlt (by omega)]
  refine ⟨?_, (B.setCell (Nat.le_refl _) _).drew, ?_, ?_, ?_⟩
  · have := blk_set BK i (.int .i64 ((N + 2 ^ k : Nat) : Int))
    rw [← hN, LL_yes see hi h] at this
    rw [← hN]
    exact this
  · rw [← G0]
    exact World.cell?_of_block (w := w2) (Below.heap_setCell _ _ _ _ (by simp; omega))
  · rw [← G1]
    exact World.cell?_of_block (w := w2) (Below.heap_setCell _ _ _ _ (by simp; omega))
  · simpa [World.setCell, World.drew] using G2
set_option maxRecDepth 4000 in
set_option maxHeartbeats 1600000 in
theorem Sights_any (A1 A2 : Option Addr) (c1 c2 : Nat) (l : List Sg) (pts : List Pt) (w : World) (hr1 : Rd w w.heap.size A1 (l.flatMap Sg.cells)) (hr2 : Rd w w.heap.size A2 (pts.flatMap Pt.cells)) (hn1 : l.length ≤ 9223372036854775807) (hn2 : pts.length ≤ 9223372036854775807) :
    Calls Try.prog 30 #[.slice A1 l.length c1, .slice A2 pts.length c2] w (MadeE w (sightV l pts) (chkE l pts 16)) := by
  have R1 := Lib.hid hr1
  have R2 := Lib.hid hr2
  have HV := Lib.hid (fun w h g => checkPoints_any A1 A2 c1 c2 l pts 16 w h g hn1 hn2)
  clear hr1 hr2
  by_cases hv : chkE l pts 16 = 0
  · obtain ⟨hval, h16, hp⟩ := chk_zero hv
    have hl := pts_of hval
    have HS := Lib.hid (fun (a b : Pt) (h : a ∈ pts) (g : b ∈ pts) w r => sees_any A1 c1 l a b w r hn1 hl (hp a h) (hp b g))
    have HE := Lib.hid (show sightV l pts = rowsK l pts pts.length from if_pos hv)
    rw [hv] at HV ⊢
    clear hv hval hp hl
    obtain ⟨see, hsee⟩ : ∃ f, seePt l pts = f := ⟨_, rfl⟩
    have HSee := Lib.hid (show ∀ i k a b, pts[i]? = some a → pts[k]? = some b → seesB l a b = see i k from fun i k a b h1 h2 => by rw [← hsee, seePt_is h1 h2])
    have HLD := Lib.hid (show rowsK l pts pts.length = LL see pts.length pts.length 0 by rw [LL_done]; unfold rowsK rowN; rw [hsee])
    clear hsee
    obtain ⟨i0, hi, hz0, hz1, hz2⟩ := info_parts Try.infoInt
    go_enter Try.func30, Try.ntmps30
    go_wp2_with fail
    refine (HV.out w R1.out R2.out).mono ?_
    rintro e w0 ⟨rfl, hb⟩
    have B0 := Lib.hid hb
    clear hb
    go_wp2_with (at_make; refine wpList_make_full _ rfl (.tmp 19) (.tmp 19) 34 rfl w0.heap.size 3 i0 (.int .i64 0) 1 Try.underlying34 hi hz0 hz1 .i64 .i64 _ _ pts.length rfl rfl rfl rfl (by rw [hz2]; omega) (by simp only [maxLen]; omega) (Nat.le_refl _) ?_; intro w1 hown1 hg1; have M := Lib.hid (made_ints hown1 hg1); clear hown1 hg1)
    have BM := Lib.hid (B0.out.trans (M.out.1.mono B0.out.size))
    have M0 := Lib.hid (show w1.heap[w0.heap.size]? = some (.cells (ints (LL see pts.length 0 0)).toArray 3 (0, 0)) by rw [LL_zero]; exact M.out.2)
    go_loopw [23] (fun i wr => ∃ k : Nat, k ≤ pts.length ∧ i = .int .i64 k ∧ wr.heap[w0.heap.size]? = some (.cells (ints (LL see pts.length k 0)).toArray 3 (0, 0)) ∧ Below w0.heap.size w0 wr) (fun i _ => pts.length - (intOf i).toNat)
    case atStart => exact ⟨0, by omega, rfl, M0.out, M.out.1⟩
    case round =>
      obtain ⟨i, hi, rfl, hblk, hb⟩ := hrel
      obtain ⟨wo, rfl⟩ : ∃ wo : World, wo = wr := ⟨_, rfl⟩
      have BK := Lib.hid hblk
      have BW := Lib.hid hb
      have BB := Lib.hid (B0.out.trans (hb.mono B0.out.size))
      have hgo : w0.heap.size < wo.heap.size := lt_of_block hblk
      clear hblk hb
      by_cases hlt : i < pts.length
      · obtain ⟨b, o, ⟨x0, y0⟩, rfl, hx, c0, c1'⟩ := (R2.out.below BB.out (Nat.le_refl _)).pt i hlt
        simp only at c0 c1'
        obtain ⟨W, hW, h0, h1, hs, hb0⟩ := one_pt wo (.int .i64 x0) (.int .i64 y0) 23
        have F := Lib.hid (And.intro h0 (And.intro h1 hs))
        have BKW := Lib.hid ((hb0.block _ hgo).trans BK.out)
        have BWW := Lib.hid (BW.out.trans (hb0.mono BW.out.size))
        clear hb0 hs h0 h1
        go_wp2_with fail
        clear hW c0 c1'
        go_loopw [30] (fun j wr => ∃ k : Nat, k ≤ pts.length ∧ j = .int .i64 k ∧ wr.heap[w0.heap.size]? = some (.cells (ints (LL see pts.length i k)).toArray 3 (0, 0)) ∧ Below w0.heap.size w0 wr ∧ wr.cell? ⟨wo.heap.size, 0, none⟩ = some (.int .i64 x0) ∧ wr.cell? ⟨wo.heap.size, 1, none⟩ = some (.int .i64 y0) ∧ wo.heap.size < wr.heap.size) (fun j _ => pts.length - (intOf j).toNat)
        case atStart => exact ⟨0, by omega, rfl, BKW.out, BWW.out, F.out.1, F.out.2.1, F.out.2.2⟩
        case round =>
          obtain ⟨k, hk, rfl, hblk, hb, h0, h1, hs⟩ := hrel
          have BK4 := Lib.hid hblk
          have B4 := Lib.hid hb
          have B5 := Lib.hid (B0.out.trans (hb.mono B0.out.size))
          have F4 := Lib.hid (And.intro h0 (And.intro h1 hs))
          have hg4 : w0.heap.size < wr.heap.size := lt_of_block hblk
          clear hblk hb
          by_cases hlt2 : k < pts.length
          · obtain ⟨b', o', ⟨x1, y1⟩, hbo, hy, d0, d1⟩ := (R2.out.below B5.out (Nat.le_refl _)).pt k hlt2
            cases hbo
            simp only at d0 d1
            have HQ := Lib.hid (HS.out _ _ (List.mem_of_getElem? hx.out) (List.mem_of_getElem? hy.out))
            rw [HSee.out i k _ _ hx.out hy.out] at HQ
            unfold Pt.v at HQ
            simp only at HQ
            have B6 := Lib.hid (B4.out.alloc B4.out.size (.cells #[.int .i64 x1, .int .i64 y1] 23))
            have BB6 := Lib.hid (B0.out.trans (B6.out.mono B0.out.size))
            have R3 := Lib.hid ((R1.out.below BB6.out (Nat.le_refl _)).more BB6.out.size)
            have BK6 := Lib.hid ((Below.heap_alloc wr (.cells #[.int .i64 x1, .int .i64 y1] 23) _ hg4).trans BK4.out)
            have F6 := Lib.hid (And.intro (cell_up (o := .cells #[.int .i64 x1, .int .i64 y1] 23) h0) (cell_up (o := .cells #[.int .i64 x1, .int .i64 y1] 23) h1))
            obtain ⟨q, hq⟩ : ∃ q, see i k = q := ⟨_, rfl⟩
            rw [hq] at HQ
            have HG := Lib.hid hq
            clear hq
            cases q
            · go_wp2_with fail
              refine (HQ.out _ R3.out).mono ?_
              rintro e w2 ⟨rfl, hb⟩
              have B7 := Lib.hid (B6.out.trans (hb.mono B6.out.size))
              have BK7 := Lib.hid ((hb.block _ (by simp; omega)).trans BK6.out)
              have G0 := Lib.hid ((hb.cell (p := ⟨wo.heap.size, 0, none⟩) (by simp; omega)).trans F6.out.1)
              have G1 := Lib.hid ((hb.cell (p := ⟨wo.heap.size, 1, none⟩) (by simp; omega)).trans F6.out.2)
              have G2 := Lib.hid (show wo.heap.size < w2.heap.size by have := hb.size; simp at this; omega)
              clear hb h0 h1
              go_wp2_with fail
              go_roundw
              case rel => exact ⟨k + 1, by omega, by go_num, by rw [LL_no see HG.out]; exact BK7.out, B7.out, G0.out, G1.out, G2.out⟩
              case measure => simp [intOf]; omega
            · go_wp2_with fail
              refine (HQ.out _ R3.out).mono ?_
              rintro e w2 ⟨rfl, hb⟩
              have B7 := Lib.hid (B6.out.trans (hb.mono B6.out.size))
              have BK7 := Lib.hid ((hb.block _ (by simp; omega)).trans BK6.out)
              have G0 := Lib.hid ((hb.cell (p := ⟨wo.heap.size, 0, none⟩) (by simp; omega)).trans F6.out.1)
              have G1 := Lib.hid ((hb.cell (p := ⟨wo.heap.size, 1, none⟩) (by simp; omega)).trans F6.out.2)
              have G2 := Lib.hid (show wo.heap.size < w2.heap.size by have := hb.size; simp at this; omega)
              have hcell : w2.cell? ⟨w0.heap.size, i, none⟩ = some (.int .i64 (bitK (see i) k : Int)) := by
                rw [cell_of_row _ _ _ _ _ _ BK7.out]
                simp [ints, LL_at see k hlt]
              have hfree := blk_free BK7.out i
              have hbk := bitK_lt (see i) k
              have HBK := Lib.hid hbk
              obtain ⟨N, hN⟩ : ∃ N, bitK (see i) k = N := ⟨_, rfl⟩
              rw [hN] at hcell
              have HN := Lib.hid hN
              clear hb h0 h1 hN hbk
              go_wp2_with fail
              go_region
              go_wp2_with fail
              go_roundw
              case rel => exact ⟨k + 1, by omega, by go_num, stored see (by have := h16; omega) hlt HN.out (by rw [← HN.out]; exact HBK.out) HG.out BK7.out B7.out G0.out G1.out G2.out hgo⟩
              case measure => simp [intOf]; omega
          · have hks : k = pts.length := by omega
            have HK := Lib.hid hks
            clear hks h0 h1
            go_wp2_with fail
            go_roundw
            case rel => exact ⟨i + 1, by omega, by go_num, by rw [← LL_next]; have := BK4.out; rw [HK.out] at this; exact this, B4.out⟩
            case measure => simp [intOf]; omega
      · have hks : i = pts.length := by omega
        have HK := Lib.hid hks
        clear hks
        go_wp2_with fail
        go_ret2
        have hlen : (sightV l pts).length = pts.length := by rw [HE.out, HLD.out, LL_len]
        exact ⟨some ⟨w0.heap.size, 0, none⟩, pts.length, by rw [hlen]; rfl, by rw [HE.out, HLD.out]; have := BK.out; rw [HK.out] at this; exact Rd.of_block this, BB.out⟩
  · have hcv : sightV l pts = [] := if_neg hv
    rw [hcv]
    generalize chkE l pts 16 = E at *
    have hE : (E == 0) = false := by simpa using hv
    have hE' : (E != 0) = true := by simpa using hv
    clear hv hcv
    go_enter Try.func30, Try.ntmps30
    go_wp2_with fail
    refine (HV.out w R1.out R2.out).mono ?_
    rintro e w1 ⟨rfl, hb⟩
    go_wp2_with fail
    go_ret2
    exact ⟨none, 0, rfl, .inl rfl, hb⟩
end Go.Proofs.Ytcefcpplkcebjaa

/-
  In how many ways a text is heard: the walk of Heard. Conditions: the code and the text can be read.
-/
import Derived.Test.YtjongjndoaojnaaTx1
import Derived.Test.YtjongjndoaojnaaFl7
namespace Go.Proofs.Ytjongjndoaojnaa
open Go.RowKit
set_option linter.unusedVariables false

def rowZ (f : Nat → Nat) (n : Nat) : List Int := (List.range n).map fun p => (f p : Int)
theorem rowZ_at {f : Nat → Nat} {n j : Nat} (h : j < n) : (ints (rowZ f n)).toArray[j]? = some (.int .i64 (f j : Int)) := by simp [rowZ, ints, h]
theorem rowZ_set {f g : Nat → Nat} {n k : Nat} {x : Int} (hk : x = (g k : Int)) (hg : ∀ j, j ≠ k → g j = f j) : (ints (rowZ f n)).toArray.setIfInBounds k (.int .i64 x) = (ints (rowZ g n)).toArray := by
  rw [List.setIfInBounds_toArray]
  congr 1
  refine List.ext_getElem? fun j => ?_
  rw [List.getElem?_set]
  by_cases hj : j < n
  · have a1 := rowZ_at (f := f) hj
    have a2 := rowZ_at (f := g) hj
    rw [List.getElem?_toArray] at a1 a2
    rw [a1, a2]
    by_cases h : k = j
    · subst h
      rw [if_pos rfl, if_pos (by simp [rowZ, ints]; exact hj), hk]
    · rw [if_neg h, hg j fun e => h e.symm]
  · have e : ∀ f : Nat → Nat, (ints (rowZ f n))[j]? = none := fun f => by simp [rowZ, ints]; omega
    rw [e, e]
    split
    · rw [if_neg (by simp [rowZ, ints]; omega)]
    · rfl
theorem made_ints0 {w w1 : World} {n : Nat} (h : w1.ownsRow w.heap.size 3 1 (.slice (some ⟨w.heap.size, 0, none⟩) n n) n (madeCells (Value.int .i64 0).cells (n * 1)).toList) (hg : w.grownBy w1 none) :
    Below w.heap.size w w1 ∧ w1.heap[w.heap.size]? = some (.cells (ints (rowZ (fun _ => 0) n)).toArray 3 (0, 0)) := by
  refine ⟨(Below.refl _ _).grown hg (Nat.le_refl _) (by simp), ?_⟩
  have hcells : (madeCells (Value.int .i64 0).cells (n * 1)).toList = ints (rowZ (fun _ => 0) n) := by
    rw [Nat.mul_one]
    refine (toList_madeCells_one (.int .i64 0) n).trans ?_
    refine List.ext_getElem? fun j => ?_
    by_cases h : j < n
    · simp [rowZ, ints, h]
    · simp [rowZ, ints, h]
  rw [← hcells]
  exact own_full h
/-- The table: from the place at on, the ways of the rest; at the place before it, a part. -/
def tab (C : List ByteArray) (u : List UInt8) (at_ : Nat) (p : Nat) : Nat := if at_ ≤ p then ways C (u.drop p) else 0
def tabP (C : List ByteArray) (u : List UInt8) (n i : Nat) (p : Nat) : Nat := if p = n then part C (u.drop n) i else tab C u (n + 1) p
theorem tab_end (C : List ByteArray) (u : List UInt8) (p : Nat) (hp : p ≤ u.length) : tab C u u.length p = if p = u.length then 1 else 0 := by
  unfold tab
  by_cases h : p = u.length
  · subst h
    rw [if_pos (Nat.le_refl _), if_pos rfl, List.drop_length]
    rfl
  · rw [if_neg (by omega), if_neg h]
theorem tabP_zero (C : List ByteArray) (u : List UInt8) (n p : Nat) : tabP C u n 0 p = tab C u (n + 1) p := by
  unfold tabP
  by_cases h : p = n
  · subst h
    rw [if_pos rfl]
    unfold tab
    rw [if_neg (by omega)]
    rfl
  · rw [if_neg h]
theorem tabP_all {C : List ByteArray} (hC : ∀ s ∈ C, 1 ≤ s.size) (u : List UInt8) (n p : Nat) (hn : n < u.length) : tabP C u n C.length p = tab C u n p := by
  unfold tabP
  by_cases h : p = n
  · subst h
    rw [if_pos rfl, part_all hC (by intro e; have := congrArg List.length e; rw [List.length_drop] at this; simp at this; omega)]
    unfold tab
    rw [if_pos (Nat.le_refl _)]
  · rw [if_neg h]
    unfold tab
    by_cases h2 : n ≤ p
    · rw [if_pos h2, if_pos (by omega)]
    · rw [if_neg h2, if_neg (by omega)]
theorem tabP_miss {C : List ByteArray} {u : List UInt8} {n i : Nat} {s : ByteArray} (hd : C[i]? = some s) (hp : ¬ bl s <+: u.drop n) (p : Nat) : tabP C u n (i + 1) p = tabP C u n i p := by
  unfold tabP
  by_cases h : p = n
  · rw [if_pos h, if_pos h, part_next hd]
    unfold term
    rw [if_neg hp]
    rfl
  · rw [if_neg h, if_neg h]
theorem tabP_hit {C : List ByteArray} {u : List UInt8} {n i : Nat} {s : ByteArray} (hd : C[i]? = some s) (hp : bl s <+: u.drop n) : tabP C u n (i + 1) n = tabP C u n i n + ways C (u.drop (n + s.size)) := by
  unfold tabP
  rw [if_pos rfl, if_pos rfl, part_next hd]
  unfold term
  rw [if_pos hp, List.drop_drop]
theorem ways_small {C : List ByteArray} (hV : Vd C) {u : List UInt8} (hu : u.length ≤ 60) : ways C u ≤ 2 ^ 60 := by
  have hC : ∀ s ∈ C, 1 ≤ s.size := fun s hs => (sgB_iff.1 (hV.sg s hs)).1
  exact Nat.le_trans (ways_le hC hV.nd u.length u (Nat.le_refl _)) (Nat.pow_le_pow_right (by decide) hu)
def hdN (C : List ByteArray) (t : ByteArray) : Nat := if txE C t = 0 then ways C (bl t) else 0
set_option maxRecDepth 8000 in
set_option maxHeartbeats 2000000 in
theorem Heard_any (A : Option Addr) (c : Nat) (C : List ByteArray) (t : ByteArray) (w : World) (hr : Rd w w.heap.size A (txts C)) (hs : Sz C) (hl : C.length ≤ c) (hc : c ≤ 9223372036854775807) (ht : t.size ≤ 9223372036854775807) :
    Calls Try.prog 22 #[.slice A C.length c, .string t] w fun e w' => e = .returned (.tuple #[.int .i64 (hdN C t : Nat), .int .i64 (txE C t)]) ∧ Below w.heap.size w w' := by
  have HCK := Lib.hid (checkText_any A c C t w hr hs hl hc ht)
  have HR := Lib.hid hr
  clear hr hs
  by_cases hz : txE C t = 0
  · obtain ⟨hv, ht60, _⟩ := txE_zero hz
    have HV := Lib.hid (vE_ok hv)
    have HD := Lib.hid (show hdN C t = ways C (bl t) from if_pos hz)
    have HE := Lib.hid hz
    have HC := Lib.hid (show ∀ s ∈ C, 1 ≤ s.size from fun s hs => (sgB_iff.1 (HV.out.sg s hs)).1)
    have hC12 := HV.out.le
    have hul : (bl t).length = t.size := bl_len t
    have HUL := Lib.hid hul
    obtain ⟨i0, hi, hz0, hz1, hz2⟩ := info_parts Try.infoInt
    have hw1 : IntKind.i64.wrap ((t.size : Int) + 1) = ((t.size + 1 : Nat) : Int) := by rw [IntKind.wrap_i64]; omega
    rw [hz] at HCK
    clear hz hv hul
    go_enter Try.func22, Try.ntmps22
    go_wp2_with fail
    refine HCK.out.mono ?_
    rintro e w1 ⟨rfl, hb⟩
    have B1 := Lib.hid hb
    have R1 := Lib.hid (HR.out.go (B0 := 0) hb)
    clear hb
    go_wp2_with ((at_make; refine wpList_make_full _ rfl (.tmp 19) (.tmp 19) 23 rfl w1.heap.size 3 i0 (.int .i64 0) 1 Try.underlying23 hi hz0 hz1 .i64 .i64 _ _ (t.size + 1) rfl rfl (by omega) (by omega) (by rw [hz2]; omega) (by simp only [maxLen]; omega) (Nat.le_refl _) ?_; intro w3 hown hgr; have MD := Lib.hid (made_ints0 hown hgr); have cme := (blk_cell (j := t.size) MD.out.2).trans (rowZ_at (Nat.lt_succ_self _)); have fme := blk_free MD.out.2 t.size; clear hown hgr))
    have F0 := Lib.hid (show (w3.setCell ⟨w1.heap.size, t.size, none⟩ (.int .i64 1)).heap[w1.heap.size]? = some (.cells (ints (rowZ (tab C (bl t) t.size) (t.size + 1))).toArray 3 (0, 0)) by
      rw [blk_set MD.out.2 t.size (.int .i64 1)]
      congr 2
      rw [rowZ_set (g := fun p => if p = t.size then 1 else 0) (by simp) (fun j hj => by simp [hj])]
      unfold rowZ ints
      congr 2
      refine List.map_congr_left fun p hp => ?_
      have := List.mem_range.1 hp
      have h2 := tab_end C (bl t) p (by rw [HUL.out]; omega)
      rw [HUL.out] at h2
      rw [h2])
    have O0 := Lib.hid ((Only.refl w1.heap.size w3).set t.size (.int .i64 1))
    have R3 := Lib.hid (R1.out.below MD.out.1 (Nat.le_refl _))
    have B3 := Lib.hid (B1.out.trans (MD.out.1.mono B1.out.size))
    have HBS := Lib.hid B1.out.size
    clear cme fme hw1 MD hi hz0 hz1 hz2
    obtain ⟨mb, hmb⟩ : ∃ x, x = w1.heap.size := ⟨_, rfl⟩
    rw [← hmb] at F0 O0 R3
    rw [← hmb]
    have HMB := Lib.hid hmb
    clear hmb
    generalize w3.setCell ⟨mb, t.size, none⟩ (.int .i64 1) = W at *
    go_loopw [8] (fun v wr => ∃ j : Nat, j ≤ t.size ∧ ((j = 0 ∧ v = .int .i64 (-1)) ∨ ∃ n : Nat, j = n + 1 ∧ v = .int .i64 (n : Int)) ∧ wr.heap[mb]? = some (.cells (ints (rowZ (tab C (bl t) j) (t.size + 1))).toArray 3 (0, 0)) ∧ Only mb w3 wr) (fun v _ => (intOf v + 1).toNat)
    case atStart =>
      refine ⟨t.size, Nat.le_refl _, ?_, F0.out, O0.out⟩
      rcases Nat.eq_zero_or_pos t.size with h | h
      · exact .inl ⟨h, by rw [h]; rfl⟩
      · exact .inr ⟨t.size - 1, by omega, by congr 1; omega⟩
    case round =>
      obtain ⟨j, hj, hcase, h1, h2⟩ := hrel
      have F1 := Lib.hid h1
      have O1 := Lib.hid h2
      clear h1 h2
      rcases hcase with ⟨rfl, rfl⟩ | ⟨n, rfl, rfl⟩
      · have c0 : wr.cell? ⟨mb, 0, none⟩ = some (.int .i64 (ways C (bl t) : Nat)) := by rw [blk_cell F1.out]; exact rowZ_at (Nat.succ_pos _)
        go_wp2_with fail
        go_ret2
        exact ⟨by rw [HD.out, HE.out]; rfl, B3.out.trans (O1.out.below (by have := HMB.out; have := HBS.out; omega))⟩
      · have e1 : decide ((0 : Int) ≤ (n : Int)) = true := by simp
        have F2 := Lib.hid (show wr.heap[mb]? = some (.cells (ints (rowZ (tabP C (bl t) n 0) (t.size + 1))).toArray 3 (0, 0)) by
          rw [F1.out]
          unfold rowZ
          congr 4
          refine List.map_congr_left fun p _ => ?_
          rw [tabP_zero])
        have O2 := Lib.hid O1.out
        clear F1
        go_wp2_with fail
        clear e1
        go_loopw [34] (fun i wr => ∃ k : Nat, k ≤ C.length ∧ i = .int .i64 k ∧ wr.heap[mb]? = some (.cells (ints (rowZ (tabP C (bl t) n k) (t.size + 1))).toArray 3 (0, 0)) ∧ Only mb w3 wr) (fun i _ => C.length - (intOf i).toNat)
        case atStart => exact ⟨0, by omega, rfl, F2.out, O2.out⟩
        case round =>
          obtain ⟨k, hk, rfl, h1, h2⟩ := hrel
          have F3 := Lib.hid h1
          have O3 := Lib.hid h2
          clear h1 h2
          by_cases hlt : k < C.length
          · obtain ⟨b2, o2, s, hA2, hd, hc2⟩ := (O3.out.rd R3.out fun b o h => by
              obtain ⟨b', o', e', hb', _⟩ := R1.out.at_ (txts_at (List.getElem?_eq_getElem hlt))
              rw [e'] at h
              injection h with h
              injection h with h1
              have := HMB.out
              omega).txt k hlt
            have HA2 := Lib.hid hA2
            subst hA2
            have b0 : (0 : Int) ≤ (n : Int) := by omega
            have b1 : (n : Int) ≤ (t.size : Int) := by omega
            have HPX := Lib.hid (HasPrefix_any (drp t n) s)
            have hpe : pfx s (drp t n) = decide (bl s <+: (bl t).drop n) := by rw [pfx_bl, bl_drp]
            cases hp : pfx s (drp t n)
            · rw [hp] at HPX hpe
              have HM := Lib.hid (fun p => tabP_miss (n := n) hd.out (of_decide_eq_false hpe.symm) p)
              have F4 := Lib.hid (show wr.heap[mb]? = some (.cells (ints (rowZ (tabP C (bl t) n (k + 1)) (t.size + 1))).toArray 3 (0, 0)) by
                rw [F3.out]
                unfold rowZ
                congr 4
                refine List.map_congr_left fun p _ => ?_
                rw [HM.out])
              clear hp hpe
              go_wp2_with fail
              refine (HPX.out _).mono ?_
              rintro e w' ⟨rfl, rfl⟩
              go_wp2_with fail
              go_roundw
              case rel => exact ⟨k + 1, by omega, by go_num, F4.out, O3.out⟩
              case measure => simp [intOf]; omega
            · rw [hp] at HPX hpe
              have hpp := of_decide_eq_true hpe.symm
              have hle := hpp.length_le
              rw [List.length_drop, HUL.out, bl_len] at hle
              have hs1 := HC.out s (List.mem_of_getElem? hd.out)
              have hs12 := (sgB_iff.1 (HV.out.sg s (List.mem_of_getElem? hd.out))).2.1
              have HH := Lib.hid (tabP_hit (n := n) hd.out hpp)
              have HAL := Lib.hid (show tabP C (bl t) n (k + 1) n ≤ 2 ^ 60 by
                unfold tabP
                rw [if_pos rfl]
                refine Nat.le_trans (part_le C _ _) ?_
                rw [part_all HC.out (by intro e; have := congrArg List.length e; rw [List.length_drop, HUL.out] at this; simp at this; omega)]
                exact ways_small HV.out (by rw [List.length_drop, HUL.out]; omega))
              have c0 : wr.cell? ⟨mb, n, none⟩ = some (.int .i64 (tabP C (bl t) n k n : Nat)) := by rw [blk_cell F3.out]; exact rowZ_at (by omega)
              have c1 : wr.cell? ⟨mb, n + s.size, none⟩ = some (.int .i64 (ways C ((bl t).drop (n + s.size)) : Nat)) := by
                rw [blk_cell F3.out, rowZ_at (by omega)]
                unfold tabP tab
                rw [if_neg (by omega), if_pos (by omega)]
              have f0 := blk_free F3.out n
              have HNE := Lib.hid (fun p (h : p ≠ n) => show tabP C (bl t) n (k + 1) p = tabP C (bl t) n k p by unfold tabP; rw [if_neg h, if_neg h])
              obtain ⟨a, ha⟩ : ∃ x, x = tabP C (bl t) n k n := ⟨_, rfl⟩
              obtain ⟨b, hb⟩ : ∃ x, x = ways C ((bl t).drop (n + s.size)) := ⟨_, rfl⟩
              rw [← ha] at c0 HH
              rw [← hb] at c1 HH
              have hab : a + b ≤ 2 ^ 60 := by rw [← HH.out]; exact HAL.out
              have HWR := Lib.hid (show wrap64 ((a : Int) + (b : Int)) = ((a + b : Nat) : Int) by unfold wrap64; omega)
              have b2' : (n : Int) < ((t.size + 1 : Nat) : Int) := by omega
              have b3 : ((n : Int) + (s.size : Int)) < ((t.size + 1 : Nat) : Int) := by omega
              have b4 : (n : Int) < (t.size : Int) + 1 := by omega
              have b5 : ((n : Int) + (s.size : Int)) < (t.size : Int) + 1 := by omega
              have b6 : (0 : Int) ≤ (n : Int) + (s.size : Int) := by omega
              have b7 : ((n : Int) + (s.size : Int)).toNat = n + s.size := by omega
              have F5 := Lib.hid (show (wr.setCell ⟨mb, n, none⟩ (.int .i64 ((a + b : Nat) : Int))).heap[mb]? = some (.cells (ints (rowZ (tabP C (bl t) n (k + 1)) (t.size + 1))).toArray 3 (0, 0)) by
                rw [blk_set F3.out n _, rowZ_set (g := tabP C (bl t) n (k + 1)) (by rw [HH.out]) HNE.out])
              have O5 := Lib.hid (O3.out.set n (.int .i64 ((a + b : Nat) : Int)))
              clear hp hpe hpp hab ha hb
              go_wp2_with fail
              refine (HPX.out _).mono ?_
              rintro e w' ⟨rfl, rfl⟩
              go_wp2_with fail
              go_region
              rw [HWR.out]
              go_wp2_with fail
              go_roundw
              case rel => exact ⟨k + 1, by omega, by go_num, F5.out, O5.out⟩
              case measure => simp [intOf]; omega
          · have hks : k = C.length := by omega
            have F6 := Lib.hid (show wr.heap[mb]? = some (.cells (ints (rowZ (tab C (bl t) n) (t.size + 1))).toArray 3 (0, 0)) by
              rw [F3.out, hks]
              unfold rowZ
              congr 4
              refine List.map_congr_left fun p _ => ?_
              rw [tabP_all HC.out (bl t) n p (by rw [HUL.out]; omega)])
            subst hks
            go_wp2_with fail
            go_roundw
            case rel =>
              refine ⟨n, by omega, ?_, F6.out, O3.out⟩
              rcases Nat.eq_zero_or_pos n with h | h
              · exact .inl ⟨h, by rw [h]; rfl⟩
              · exact .inr ⟨n - 1, by omega, by congr 1; omega⟩
            case measure => simp [intOf]
  · have e1 : (txE C t != 0) = true := by simpa using hz
    have HD := Lib.hid (show hdN C t = 0 from if_neg hz)
    clear hz
    go_enter Try.func22, Try.ntmps22
    go_wp2_with fail
    refine HCK.out.mono ?_
    rintro e w1 ⟨rfl, hb⟩
    have B1 := Lib.hid hb
    clear hb
    go_wp2_with fail
    go_ret2
    exact ⟨by rw [HD.out]; rfl, B1.out⟩
end Go.Proofs.Ytjongjndoaojnaa

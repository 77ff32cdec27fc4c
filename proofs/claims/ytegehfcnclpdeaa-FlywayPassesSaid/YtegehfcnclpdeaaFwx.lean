/-
  The equation of a place: the walk of chain.visitsFrom. Condition: a chain of at most five places that can be read.
-/
import Derived.Test.YtegehfcnclpdeaaFvt
import Derived.Test.YtegehfcnclpdeaaFwr
namespace Go.Proofs.Ytegehfcnclpdeaa
open Go.RowKit Go.Shelf
set_option linter.unusedVariables false
attribute [local go_sem] Oper.semAt_some

def b2i (b : Bool) : Int := if b = true then 1 else 0
theorem row_lsum {rs : List Rw} {a c : Nat} {A : Option Addr} {l : List Int} (h : rs[a]? = some ⟨A, c, l⟩) : (rowsL rs).getD a [] = l := by
  unfold rowsL
  rw [List.getD_eq_getElem?_getD, List.getElem?_map, h]
  rfl
theorem lsum_le {l : List Int} (h : Okr l) : 0 ≤ lsum l ∧ lsum l ≤ 15 := by
  have hh : ∀ l : List Int, (∀ d ∈ l, 0 ≤ d ∧ d ≤ 3) → 0 ≤ lsum l ∧ lsum l ≤ 3 * l.length := fun l => by
    induction l with
    | nil => intro _; exact ⟨Int.le_refl 0, Int.le_refl 0⟩
    | cons a l ih =>
      intro hl
      have h1 := hl a (by simp)
      have h2 := ih fun d hd => hl d (by simp [hd])
      show 0 ≤ a + lsum l ∧ a + lsum l ≤ 3 * ((l.length + 1 : Nat) : Int)
      omega
  have := hh l h.2
  have := h.1
  omega
def VfI (s g7 s1 n i : Nat) (ps : List (Nat × Int)) (W : World) : Prop :=
  Boxed W s 3 (.int .i64 (i : Int)) ∧ Boxed W g7 96 (.slice (some ⟨s1, 0, none⟩) (n + 1) (n + 1)) ∧ W.heap[s1]? = some (.cells (ints (rowF (evF i ps) (n + 1))).toArray 3 (0, 0))
theorem vfI_own {α : Type} (s g7 s1 n i : Nat) (f : List α → List (Nat × Int)) : Own (fun (pre : List α) W => VfI s g7 s1 n i (f pre) W) := by
  rintro pre X Y row ⟨h1, h2, h3⟩ hg hr
  exact ⟨boxed_kept h1 hg hr, boxed_kept h2 hg hr, blk_kept h3 hg hr⟩
set_option maxRecDepth 100000 in
set_option maxHeartbeats 8000000 in
theorem visitsFrom_any (A : Option Addr) (rs : List Rw) (c i : Nat) (h5 : rs.length ≤ 5) (hlen : ∀ r ∈ rs, r.l.length = rs.length) (hok : ∀ r ∈ rs, Okr r.l) (hi : i < rs.length) (b : Bool) (w : World) (hr : RdR w w.heap.size A rs) :
    Calls Try.prog 99 #[.slice A rs.length c, .int .i64 i, .bool b] w fun e w' => ∃ g c', e = .returned (.slice (some ⟨g, 0, none⟩) (rs.length + 1) c') ∧ w.heap.size ≤ g ∧ w'.heap[g]? = some (.cells (ints (rowF (vF (rowsL rs) rs.length i (b2i b)) (rs.length + 1))).toArray 3 (0, 0)) ∧ Below w.heap.size w w' := by
  refine (callsIn_wide (n := 3)).1 ?_
  refine callsIn_of_wp_marks Try.func99 rfl trivial (Code.wpIn_mono np_le ?_) rfl
  simp only [Try.ntmps99, List.size_toArray, List.length_cons, List.length_nil, Nat.reduceAdd, Nat.reduceSub, Array.replicate_succ, Array.replicate_zero, List.push_toArray, List.append_toArray, List.nil_append, List.cons_append]
  obtain ⟨i0, hi0, hz0, hz1, hz2⟩ := info_parts eEqn.hi
  obtain ⟨⟨A', c', l⟩, hrow⟩ : ∃ r, rs[i]? = some r := ⟨_, List.getElem?_eq_getElem hi⟩
  have hokl : Okr l := hok _ (List.mem_of_getElem? hrow)
  have hll : l.length = rs.length := hlen _ (List.mem_of_getElem? hrow)
  have HR := Lib.hid hr
  have HEnd := Lib.hid (fun w h => isEnd_at A rs c i (by omega) hlen hi w h)
  have HSure := Lib.hid (fun w h => isSure_any A rs c i (by omega) hlen hi w h)
  have HSum := Lib.hid (fun w h => sum_any A rs c i A' c' l hokl w h hrow)
  have HOne := Lib.hid (fun w => show Calls Try.prog 90 #[.bool b] w fun e w' => e = .returned (.int .i64 (b2i b)) ∧ w = w' from oneIf_any b w)
  have HSt := Lib.hid (fun B0 B1 n₀ w h1 h2 h3 h4 h5 h6 => pas_stops 2 (by decide) B0 B1 n₀ A rs c i A' c' l (by omega) w h1 h2 h3 h4 h5 h6 hrow)
  have HWt := Lib.hid (fun j => wt_row hrow j)
  have HLs := Lib.hid (row_lsum hrow)
  obtain ⟨n, hn⟩ : ∃ n, rs.length = n := ⟨_, rfl⟩
  have HN := Lib.hid hn
  obtain ⟨s, hs⟩ : ∃ s, w.heap.size = s := ⟨_, rfl⟩
  have HS := Lib.hid hs
  rw [hn] at HEnd HSure HSum h5 hll hi HSt ⊢
  have HV := Lib.hid (show ∀ p, vF (rowsL rs) n i (b2i b) p = if (endAt (rowsL rs) i || !sureB (rowsL rs) n i) = true then (if p = n then b2i b else if p = i then 1 else 0) else if p = n then lsum ((rowsL rs).getD i []) * b2i b else (if p = i then lsum ((rowsL rs).getD i []) else 0) - wt (rowsL rs) i p from fun p => rfl)
  generalize rowsL rs = L at *
  clear hr hlen hok hn hs hrow
  have a1 := Boxed.new w 3 (.int .i64 (i : Int))
  obtain ⟨w1, hw1⟩ : ∃ w1, w.alloc (.cells #[.int .i64 (i : Int)] 3) = w1 := ⟨_, rfl⟩
  have hz : w1.heap.size = s + 1 := by rw [← hw1]; simp [HS.out]
  have B1 := Lib.hid (show Below s w w1 by rw [← hw1, ← HS.out]; exact (Below.refl _ _).alloc (Nat.le_refl _) _)
  rw [hw1, HS.out] at a1
  have HA1 := Lib.hid a1
  have hsz1 : (w.alloc (.cells #[.int .i64 (i : Int)] 3)).heap.size = s + 1 := by rw [hw1]; exact hz
  have HSZ := Lib.hid hsz1
  have HW1 := Lib.hid hw1
  clear hw1 a1 hsz1
  gi_wp2_with (gi_at_make; refine wpListIn_make_full _ rfl (.tmp 12) (.tmp 12) 96 rfl w.heap.size 3 i0 (.int .i64 0) 1 Try.underlying96 hi0 hz0 hz1 .i64 .i64 _ _ (n + 1) rfl rfl (by simp) (by simp) (by rw [hz2]; omega) (by simp only [maxLen]; omega) (by simp) ?_; intro w3 hown hgr; have MD := Lib.hid (made_rowF hown hgr); have hq1 := (((Boxed.new w 3 (.int .i64 (i : Int))).kept hgr (by simp)).alloc (.cells #[.slice (some ⟨w.heap.size + 1, 0, none⟩) (n + 1) (n + 1)] 96)).cell; clear hown hgr)
  have hmd := MD.out
  rw [HSZ.out, HW1.out] at hmd
  have hgs := lt_of_block' hmd.2
  rw [HS.out]
  obtain ⟨g7, hg7⟩ : ∃ g, w3.heap.size = g := ⟨_, rfl⟩
  have b7 := Boxed.new w3 96 (.slice (some ⟨s + 1, 0, none⟩) (n + 1) (n + 1))
  rw [hg7] at b7 hgs ⊢
  have d1 := blk_alloc' (o := .cells #[.slice (some ⟨s + 1, 0, none⟩) (n + 1) (n + 1)] 96) hmd.2
  have d4 := (hmd.1.block s (by omega)).trans HA1.out
  have d4' := blk_alloc' (o := .cells #[.slice (some ⟨s + 1, 0, none⟩) (n + 1) (n + 1)] 96) d4
  have dB := (B1.out.trans (hmd.1.mono (by omega))).alloc (by omega) (.cells #[.slice (some ⟨s + 1, 0, none⟩) (n + 1) (n + 1)] 96)
  have dz : (w3.alloc (.cells #[.slice (some ⟨s + 1, 0, none⟩) (n + 1) (n + 1)] 96)).heap.size = g7 + 1 := by simp [hg7]
  obtain ⟨W, hW⟩ : ∃ W, w3.alloc (.cells #[.slice (some ⟨s + 1, 0, none⟩) (n + 1) (n + 1)] 96) = W := ⟨_, rfl⟩
  rw [hW] at b7 d1 d4' dB dz ⊢
  have D7 := Lib.hid b7
  have D1 := Lib.hid d1
  have D4 := Lib.hid (show Boxed W s 3 (.int .i64 (i : Int)) from d4')
  have DB := Lib.hid dB
  have HRW := Lib.hid (show RdR W W.heap.size A rs from (HR.out.below (by rw [HS.out]; exact dB) (Nat.le_refl _)).more (by rw [HS.out, dz]; omega))
  have HE1 := Lib.hid (HEnd.out W HRW.out)
  clear hmd MD b7 d1 d4 d4' dB hW hg7 hq1 HA1 B1 HW1 HSZ hz
  refine ⟨trivial, ?_⟩
  gi_at_call 62
  refine (callsIn_wide.2 HE1.out).mono ?_
  rintro e w2 ⟨rfl, hb2⟩
  have E7 := Lib.hid (boxed_up D7.out hb2)
  have E4 := Lib.hid (boxed_up D4.out hb2)
  have E1 := Lib.hid ((hb2.block (s + 1) (by omega)).trans D1.out)
  have EB := Lib.hid (DB.out.trans (hb2.mono (by omega)))
  have ez := hb2.size
  have HRE := Lib.hid (HRW.out.up hb2)
  have e4 := E4.out.cell
  have e7 := E7.out.cell
  have HS1 := Lib.hid (HSure.out w2 HRE.out)
  clear hb2 D7 D1 D4 DB HRW HE1
  have HV2 := HV
  obtain ⟨xe, hxe⟩ : ∃ x, endAt L i = x := ⟨_, rfl⟩
  obtain ⟨xs, hxs⟩ : ∃ x, sureB L n i = x := ⟨_, rfl⟩
  rw [hxe, hxs] at HV2
  rw [hxs] at HS1
  rw [hxe]
  cases xe
  · gi_wp2
    refine ⟨trivial, ?_⟩
    gi_at_call 66
    refine (callsIn_wide.2 HS1.out).mono ?_
    rintro e w4 ⟨rfl, hb4⟩
    have F7 := Lib.hid (boxed_up E7.out hb4)
    have F4 := Lib.hid (boxed_up E4.out hb4)
    have F1 := Lib.hid ((hb4.block (s + 1) (by omega)).trans E1.out)
    have FB := Lib.hid (EB.out.trans (hb4.mono (by omega)))
    have HRF := Lib.hid (HRE.out.up hb4)
    have f7 := F7.out.cell
    have f4 := F4.out.cell
    have fz := hb4.size
    clear hb4 E7 E4 E1 EB HRE HS1 e4 e7
    cases xs
    · have hdummy := True.intro
      have c0 : w4.cell? ⟨s + 1, i, none⟩ = some (.int .i64 0) := (blk_cell F1.out).trans (rowF_at (by omega))
      have fr0 := blk_free F1.out i
      have i0' : (0 : Int) ≤ (i : Int) := by omega
      have i1' : (i : Int) < (n : Int) + 1 := by omega
      have i2' : (n : Int) < (n : Int) + 1 := by omega
      have i3' : (0 : Int) ≤ (n : Int) := by omega
      have h1 := blk_set F1.out i (.int .i64 1)
      rw [rowF_set (G := upd (fun _ => 0) i 1) (by rw [upd_at]) (fun p hp => upd_off hp)] at h1
      have c7 := (boxed_off (g := s + 1) (j := i) (u := .int .i64 1) F7.out (by omega)).cell
      have c2 : (w4.setCell ⟨s + 1, i, none⟩ (.int .i64 1)).cell? ⟨s + 1, n, none⟩ = some (.int .i64 (upd (fun _ => 0) i 1 n)) := (blk_cell h1).trans (rowF_at (by omega))
      have fr2 := blk_free h1 n
      have h2 := blk_set h1 n (.int .i64 (b2i b))
      rw [rowF_set (G := upd (upd (fun _ => 0) i 1) n (b2i b)) (by rw [upd_at]) (fun p hp => upd_off hp)] at h2
      have HH2 := Lib.hid h2
      have c77 := (boxed_off (g := s + 1) (j := n) (u := .int .i64 (b2i b)) (boxed_off (g := s + 1) (j := i) (u := .int .i64 1) F7.out (by omega)) (by omega)).cell
      have HBZ := Lib.hid (((FB.out.setCell (p := ⟨s + 1, i, none⟩) (by show s ≤ s + 1; omega) (.int .i64 1)).setCell (p := ⟨s + 1, n, none⟩) (by show s ≤ s + 1; omega) (.int .i64 (b2i b))))
      have HVV := Lib.hid (show rowF (upd (upd (fun _ => 0) i 1) n (b2i b)) (n + 1) = rowF (vF L n i (b2i b)) (n + 1) from rowF_congr fun p _ => by
        rw [HV2.out p, if_pos (by rfl)]
        unfold upd
        rfl)
      have hmx : Try.prog.follows .mixedOrders = true := by kernel_rfl
      clear h1 h2
      gi_wp2
      (try (refine ⟨trivial, ?_⟩; gi_wp2))
      gi_region_with_o (first | (gi_at_call 90; refine (callsIn_wide.2 (HOne.out _)).mono ?_; rintro e w' ⟨rfl, rfl⟩) | (refine ⟨trivial, ?_⟩; gi_at_call 90; refine (callsIn_wide.2 (HOne.out _)).mono ?_; rintro e w' ⟨rfl, rfl⟩))
      all_goals gi_wp2
      all_goals (
        show LeavesInM _ _ _ _ _ _ _ _ _
        refine ⟨_, results_tmp rfl _ _ _, s + 1, n + 1, rfl, by rw [HS.out]; omega, ?_, ?_⟩
        · rw [← HVV.out]; exact HH2.out
        · rw [HS.out]; exact HBZ.out.drew)
    · have HV3 := Lib.hid (show rowF (upd (evF i (pasU l l.length)) n (lsum l * b2i b)) (n + 1) = rowF (vF L n i (b2i b)) (n + 1) from rowF_congr fun p _ => by
        rw [HV2.out p, if_neg (by decide), HLs.out]
        unfold upd
        by_cases e : p = n
        · rw [if_pos e, if_pos e]
        · rw [if_neg e, if_neg e, evF_all (fun d hd => (hokl.2 d hd).1), HWt.out])
      have hp1 := Boxed.new w4 67 (.slice A n c)
      have hp2 := Boxed.new (w4.alloc (.cells #[.slice A n c] 67)) 3 (.int .i64 (i : Int))
      obtain ⟨z, hz4⟩ : ∃ z, w4.heap.size = z := ⟨_, rfl⟩
      simp only [World.size_alloc, hz4] at hp1 hp2
      have hp1' := hp1.alloc (.cells #[.int .i64 (i : Int)] 3)
      have B5 : Below w4.heap.size w4 ((w4.alloc (.cells #[.slice A n c] 67)).alloc (.cells #[.int .i64 (i : Int)] 3)) := ((Below.refl _ w4).alloc (Nat.le_refl _) _).alloc (by simp) _
      have hz5 : ((w4.alloc (.cells #[.slice A n c] 67)).alloc (.cells #[.int .i64 (i : Int)] 3)).heap.size = z + 1 + 1 := by simp [hz4]
      gi_wp2_with (refine ⟨trivial, ?_⟩; gi_at_call 91; refine (callsIn_wide.2 (passages_any _ _ _ _ _)).mono ?_; rintro e w' ⟨rfl, rfl⟩)
      obtain ⟨W5, hW5⟩ : ∃ W5, (w4.alloc (.cells #[.slice A n c] 67)).alloc (.cells #[.int .i64 (i : Int)] 3) = W5 := ⟨_, rfl⟩
      rw [hW5] at hp2 hp1' B5 hz5 ⊢
      have hsz4 : s + 1 < z := by have := lt_of_block' F1.out; omega
      have G7 := boxed_up F7.out B5
      have G4 := boxed_up F4.out B5
      have G1 := (B5.block (s + 1) (by omega)).trans F1.out
      have GB := FB.out.trans (B5.mono (by omega))
      have hg7z : g7 < z := by have := F7.out.lt; omega
      have hHS := HSt.out z (z + 1) s W5 (by omega) (by omega) (by omega) hp1'.cell hp2.cell (by have := HR.out.below GB (by rw [HS.out]; exact Nat.le_refl _); rwa [HS.out] at this)
      clear hp1 hp2 hp1' B5 hW5 F7 F4 F1 FB HRF f7 f4 fz
      refine wpIn_rangeFunc_ownF (n := 3) rfl (by decide) (gf := 104) (lb := #[.pointer (some ⟨z, 0, none⟩), .pointer (some ⟨z + 1, 0, none⟩)]) rfl trivial (enters_of Try.func104 (by kernel_rfl) rfl)
        hHS belowK_t (belowK_b (by omega)) (Below.refl _ _) (fun _ => rfl)
        (fun pre W => VfI s g7 (s + 1) n i (pre.map fun x => x.1) W ∧ Below s w W)
        (fun _ _ _ => False)
        (OwnFrom.and (Own.from (vfI_own _ _ _ _ _ _) _) (ownFrom_below (by rw [HS.out]; exact Nat.le_refl _) (by omega)))
        (fun _ _ _ _ _ hs _ _ => hs)
        ⟨⟨G4, G7, G1⟩, GB⟩
        ?a₁ ?assign ?body ?done ?stop
      case assign =>
        intro l x W K hK
        gi_wp2
        exact hK
      case body =>
        rintro ll pre x W ⟨⟨k4, k7, k1⟩, hB⟩ hlen
        have hx := hokl.pas x
        have hxw : x.1.1 < n := by omega
        have hle := evF_le i (ps := pre.map fun x => x.1) (fun y hy => by
          obtain ⟨y', _, rfl⟩ := List.mem_map.1 hy
          have := hokl.pas y'
          omega)
        have hle1 := hle i
        rw [List.length_map] at hle1
        have hpl : pre.length ≤ 5 := by omega
        have c4 := k4.cell
        have c7 := k7.cell
        have ci : W.cell? ⟨s + 1, i, none⟩ = some (.int .i64 (evF i (pre.map fun x => x.1) i)) := (blk_cell k1).trans (rowF_at (by omega))
        have fi := blk_free k1 i
        have h1 := blk_set k1 i (.int .i64 (evF i (pre.map fun x => x.1) i + x.1.2))
        rw [rowF_set (G := upd (evF i (pre.map fun x => x.1)) i (evF i (pre.map fun x => x.1) i + x.1.2)) (by rw [upd_at]) (fun p hp => upd_off hp)] at h1
        have k7' := boxed_off (g := s + 1) (j := i) (u := .int .i64 (evF i (pre.map fun x => x.1) i + x.1.2)) k7 (by omega)
        have k4' := boxed_off (g := s + 1) (j := i) (u := .int .i64 (evF i (pre.map fun x => x.1) i + x.1.2)) k4 (by omega)
        have c7' := k7'.cell
        obtain ⟨F2, hF2⟩ : ∃ F2, upd (evF i (pre.map fun x => x.1)) i (evF i (pre.map fun x => x.1) i + x.1.2) = F2 := ⟨_, rfl⟩
        have hF2j : -100 ≤ F2 x.1.1 ∧ F2 x.1.1 ≤ 100 := by
          have h2 := hle x.1.1
          rw [List.length_map] at h2
          rw [← hF2]
          unfold upd
          split <;> omega
        rw [hF2] at h1
        obtain ⟨v, hv⟩ : ∃ v, evF i (pre.map fun x => x.1) i = v := ⟨_, rfl⟩
        rw [hv] at ci hle1 h1 k7' k4' c7'
        have cj : (W.setCell ⟨s + 1, i, none⟩ (.int .i64 (v + x.1.2))).cell? ⟨s + 1, x.1.1, none⟩ = some (.int .i64 (F2 x.1.1)) := (blk_cell h1).trans (rowF_at (by omega))
        have fj := blk_free h1 x.1.1
        have h2 := blk_set h1 x.1.1 (.int .i64 (F2 x.1.1 - x.1.2))
        rw [rowF_set (G := upd F2 x.1.1 (F2 x.1.1 - x.1.2)) (by rw [upd_at]) (fun p hp => upd_off hp)] at h2
        have HFin := Lib.hid (show upd F2 x.1.1 (F2 x.1.1 - x.1.2) = evF i ((pre ++ [x]).map fun x => x.1) by
          rw [List.map_append, List.map_cons, List.map_nil, evF_snoc]
          unfold evS
          rw [hF2])
        have hb0 : (0 : Int) ≤ (i : Int) := by omega
        have hb1 : (i : Int) < (n : Int) + 1 := by omega
        have hb2 : (0 : Int) ≤ (x.1.1 : Int) := by omega
        have hb3 : (x.1.1 : Int) < (n : Int) + 1 := by omega
        have HH := Lib.hid h2
        have K7 := Lib.hid (boxed_off (g := s + 1) (j := x.1.1) (u := .int .i64 (F2 x.1.1 - x.1.2)) k7' (by omega))
        have K4 := Lib.hid (boxed_off (g := s + 1) (j := x.1.1) (u := .int .i64 (F2 x.1.1 - x.1.2)) k4' (by omega))
        clear h1 h2 hF2 hv hle k7 k4 k1 k7' k4'
        generalize F2 x.1.1 = y at *
        gi_wp2
        exact ⟨(KeepsOthers.setCell _ _ _).trans (KeepsOthers.setCell _ _ _), ((Below.refl s W).setCell (p := ⟨s + 1, i, none⟩) (by show s ≤ s + 1; omega) _).setCell (p := ⟨s + 1, x.1.1, none⟩) (by show s ≤ s + 1; omega) _, ⟨K4.out, K7.out, by rw [← HFin.out]; exact HH.out⟩, (hB.setCell (p := ⟨s + 1, i, none⟩) (by show s ≤ s + 1; omega) _).setCell (p := ⟨s + 1, x.1.1, none⟩) (by show s ≤ s + 1; omega) _⟩
      case done =>
        rintro D ys W hD hys ⟨⟨k4, k7, k1⟩, hB⟩ hK
        rw [hys] at k1
        have hWz := hB.size
        have hRW : RdR W W.heap.size A rs := (HR.out.below (by rw [HS.out]; exact hB) (Nat.le_refl _)).more hWz
        have HSm := Lib.hid (HSum.out W.drew hRW)
        have c4 := k4.cell
        have c7 := k7.cell
        have hlb := lsum_le hokl
        have hbb : 0 ≤ b2i b ∧ b2i b ≤ 1 := by unfold b2i; split <;> omega
        have hmul : 0 ≤ lsum l * b2i b ∧ lsum l * b2i b ≤ 15 := by
          unfold b2i
          split <;> omega
        have q1 : IntKind.i64.wrap (lsum l * b2i b) = lsum l * b2i b := wrapI_mid (by unfold Mid; omega)
        have q2 : wrap64 (lsum l * b2i b) = lsum l * b2i b := wrap_mid (by unfold Mid; omega)
        have i2' : (n : Int) < (n : Int) + 1 := by omega
        have i3' : (0 : Int) ≤ (n : Int) := by omega
        have hmx : Try.prog.follows .mixedOrders = true := by kernel_rfl
        have K1 := Lib.hid k1
        have K7 := Lib.hid k7
        have HK := Lib.hid hK
        have HB := Lib.hid hB
        have hs1W := lt_of_block' k1
        have hg7W := k7.lt
        have hDW := lt_of_block' hK
        clear k1 k7 k4 hK hB hRW hys hlb hbb hmul hWz
        gi_wp2
        gi_region_with_o (first
          | (gi_at_call 90; refine (callsIn_wide.2 (HOne.out _)).mono ?_; rintro e w' ⟨rfl, rfl⟩)
          | (refine ⟨trivial, ?_⟩; gi_at_call 90; refine (callsIn_wide.2 (HOne.out _)).mono ?_; rintro e w' ⟨rfl, rfl⟩)
          | (gi_at_call 94; refine (callsIn_wide.2 HSm.out).mono ?_; rintro e w6 ⟨rfl, hb6⟩; have X1 := (hb6.block (s + 1) hs1W).trans K1.out; have x7 := (boxed_up (show Boxed W.drew g7 _ _ from K7.out) hb6).cell; have xn := (blk_cell (j := n) X1).trans (rowF_at (by omega)); have xf := blk_free X1 n; have HX1 := Lib.hid X1; have HB6 := Lib.hid hb6; clear X1 hb6)
          | (refine ⟨trivial, ?_⟩; gi_at_call 94; refine (callsIn_wide.2 HSm.out).mono ?_; rintro e w6 ⟨rfl, hb6⟩; have X1 := (hb6.block (s + 1) hs1W).trans K1.out; have x7 := (boxed_up (show Boxed W.drew g7 _ _ from K7.out) hb6).cell; have xn := (blk_cell (j := n) X1).trans (rowF_at (by omega)); have xf := blk_free X1 n; have HX1 := Lib.hid X1; have HB6 := Lib.hid hb6; clear X1 hb6))
        all_goals (
          have Y1 := blk_set HX1.out n (.int .i64 (lsum l * b2i b))
          rw [rowF_set (G := upd (evF i (pasU l l.length)) n (lsum l * b2i b)) (by rw [upd_at]) (fun p hp => upd_off hp)] at Y1
          have YB := ((HB.out.drew).trans (HB6.out.mono (show s ≤ W.heap.size by omega))).setCell (p := ⟨s + 1, n, none⟩) (by show s ≤ s + 1; omega) (.int .i64 (lsum l * b2i b))
          have YK := (Below.heap_setCell w6 ⟨s + 1, n, none⟩ (.int .i64 (lsum l * b2i b)) D (by show D ≠ s + 1; omega)).trans ((HB6.out.block D hDW).trans HK.out)
          have y7 := (boxed_off (g := s + 1) (j := n) (u := .int .i64 (lsum l * b2i b)) (boxed_up (show Boxed W.drew g7 _ _ from K7.out) HB6.out) (by omega)).cell
          gi_wp2
          show LeavesInM _ _ _ _ _ _ _ _ _
          refine ⟨by simp, .inl ⟨_, _, rfl, run_takeDeferred YK, ?_⟩⟩
          refine ⟨_, results_tmp rfl _ _ _, s + 1, n + 1, rfl, by rw [HS.out]; omega, ?_, ?_⟩
          · rw [← HV3.out]; exact (World.putObj_heap_other (by omega)).trans Y1
          · rw [HS.out]; exact YB.trans (belowK_b (w := w) (by rw [HS.out]; exact Nat.le_refl _) _ D _ _ (by rw [HS.out]; omega) YK rfl rfl))
      case stop =>
        rintro D c pre W _ _ h _
        exact h.elim
  · have hdummy := True.intro
    have c0 : w2.cell? ⟨s + 1, i, none⟩ = some (.int .i64 0) := (blk_cell E1.out).trans (rowF_at (by omega))
    have fr0 := blk_free E1.out i
    have i0' : (0 : Int) ≤ (i : Int) := by omega
    have i1' : (i : Int) < (n : Int) + 1 := by omega
    have i2' : (n : Int) < (n : Int) + 1 := by omega
    have i3' : (0 : Int) ≤ (n : Int) := by omega
    have h1 := blk_set E1.out i (.int .i64 1)
    rw [rowF_set (G := upd (fun _ => 0) i 1) (by rw [upd_at]) (fun p hp => upd_off hp)] at h1
    have c7 := (boxed_off (g := s + 1) (j := i) (u := .int .i64 1) E7.out (by omega)).cell
    have c2 : (w2.setCell ⟨s + 1, i, none⟩ (.int .i64 1)).cell? ⟨s + 1, n, none⟩ = some (.int .i64 (upd (fun _ => 0) i 1 n)) := (blk_cell h1).trans (rowF_at (by omega))
    have fr2 := blk_free h1 n
    have h2 := blk_set h1 n (.int .i64 (b2i b))
    rw [rowF_set (G := upd (upd (fun _ => 0) i 1) n (b2i b)) (by rw [upd_at]) (fun p hp => upd_off hp)] at h2
    have HH2 := Lib.hid h2
    have c77 := (boxed_off (g := s + 1) (j := n) (u := .int .i64 (b2i b)) (boxed_off (g := s + 1) (j := i) (u := .int .i64 1) E7.out (by omega)) (by omega)).cell
    have HBZ := Lib.hid (((EB.out.setCell (p := ⟨s + 1, i, none⟩) (by show s ≤ s + 1; omega) (.int .i64 1)).setCell (p := ⟨s + 1, n, none⟩) (by show s ≤ s + 1; omega) (.int .i64 (b2i b))))
    have HVV := Lib.hid (show rowF (upd (upd (fun _ => 0) i 1) n (b2i b)) (n + 1) = rowF (vF L n i (b2i b)) (n + 1) from rowF_congr fun p _ => by
      rw [HV2.out p, if_pos (by rfl)]
      unfold upd
      rfl)
    have hmx : Try.prog.follows .mixedOrders = true := by kernel_rfl
    clear h1 h2
    gi_wp2
    (try (refine ⟨trivial, ?_⟩; gi_wp2))
    gi_region_with_o (first | (gi_at_call 90; refine (callsIn_wide.2 (HOne.out _)).mono ?_; rintro e w' ⟨rfl, rfl⟩) | (refine ⟨trivial, ?_⟩; gi_at_call 90; refine (callsIn_wide.2 (HOne.out _)).mono ?_; rintro e w' ⟨rfl, rfl⟩))
    all_goals gi_wp2
    all_goals (
      show LeavesInM _ _ _ _ _ _ _ _ _
      refine ⟨_, results_tmp rfl _ _ _, s + 1, n + 1, rfl, by rw [HS.out]; omega, ?_, ?_⟩
      · rw [← HVV.out]; exact HH2.out
      · rw [HS.out]; exact HBZ.out.drew)
end Go.Proofs.Ytegehfcnclpdeaa

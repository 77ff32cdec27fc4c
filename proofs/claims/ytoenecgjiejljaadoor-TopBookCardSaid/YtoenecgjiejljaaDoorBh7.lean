/-
  The first line of a book in the program: the walk of headOf. Conditions: sizes; the tables that a row lists.
-/
import Derived.Test.YtoenecgjiejljaaDoorBh6
import Derived.Deep.RegionHeld3
namespace Go.Proofs.YtoenecgjiejljaaDoor
open Go.RowKit
set_option linter.unusedVariables false

theorem grown_set (w : World) (b i : Nat) (u : Value) : w.grownBy (w.setCell ⟨b, i, none⟩ u) (some b) :=
  ⟨rfl, rfl, rfl, by simp [World.setCell], fun k hk hne => by
    have : k ≠ b := fun e => hne (by rw [e])
    simp [World.setCell, Array.getElem?_modify, Ne.symm this]⟩
theorem put2 {W : World} {g : Nat} {x y : Value} {t : TypeId} (h : W.heap[g]? = some (.cells #[x, y] t (0, 0))) (a b : Value) :
    W.cell? ⟨g, 0, none⟩ = some x ∧ W.frozen? ⟨g, 0, none⟩ = false ∧ (W.setCell ⟨g, 0, none⟩ a).cell? ⟨g, 1, none⟩ = some y ∧ (W.setCell ⟨g, 0, none⟩ a).frozen? ⟨g, 1, none⟩ = false ∧
    Hid (((W.setCell ⟨g, 0, none⟩ a).setCell ⟨g, 1, none⟩ b).heap[g]? = some (.cells #[a, b] t (0, 0))) := by
  have h1 := blk_set h 0 a
  exact ⟨blk_cell h, blk_free h 0, blk_cell h1, blk_free h1 1, blk_set h1 1 b⟩
theorem put2_below {B : Nat} {w W : World} {g : Nat} (a b : Value) (h : Below B w W) (hg : B ≤ g) (hs : B ≤ W.heap.size) : Below B w ((W.setCell ⟨g, 0, none⟩ a).setCell ⟨g, 1, none⟩ b) :=
  h.grown ((grown_set W g 0 a).trans (grown_set _ g 1 b)) hs fun q hq => by injection hq with hq; omega
theorem set_off2 {w : World} {g b : Nat} (h : b ≠ g) (k : Nat) (u v : Value) : ((w.setCell ⟨g, 0, none⟩ u).setCell ⟨g, 1, none⟩ v).cell? ⟨b, k, none⟩ = w.cell? ⟨b, k, none⟩ :=
  World.cell?_of_block (a := ⟨b, k, none⟩) (by simp [World.setCell, Array.getElem?_modify, Ne.symm h])
set_option maxRecDepth 4000 in
set_option maxHeartbeats 8000000 in
theorem headOf_any (l : List UInt8) (w : World) (hl : l.length ≤ 60) (hT : Tb w) : Calls Tryd.prog 185 #[.string (sL l)] w (HoPost l w) := by
  unfold HoPost
  obtain ⟨W, hW, k0, s0, b0⟩ := one_blk w #[.int .i64 0, .int .i64 0] 107
  have G0 := Lib.hid k0
  have B0 := Lib.hid b0
  have HT := Lib.hid (hT.up b0)
  have HCP := Lib.hid (fun w => show Calls Tryd.prog 205 #[.string (sL l), .string ⟨#[112, 97, 103, 101, 115, 32]⟩] w fun e w' => e = .returned (.tuple #[.string (sL (Lib.trimPrefix l pgW)), .bool (Lib.hasPrefix l pgW)]) ∧ w = w' from CutPrefix_any l pgW w)
  have hs0 := s0
  clear k0 b0 hT
  rcases trim_pg l with ⟨hp, v, hv, ht⟩ | ⟨hp, hnone, ht⟩
  case inr =>
    have HN := Lib.hid hnone
    rw [hp, ht] at HCP
    rcases sp_cases l with hsp | ⟨f, r, hfr, hf⟩
    · have HCt := Lib.hid (fun w => show Calls Tryd.prog 184 #[.string (sL l), .string ⟨#[32]⟩] w _ from Cut_miss l 32 hsp w)
      generalize sL l = s at *
      clear hp ht hsp hl hnone
      go_enter Tryd.func185, Tryd.ntmps185
      go_wp2_with fail
      refine (HCP.out W).mono ?_
      rintro e w' ⟨rfl, rfl⟩
      go_wp2_with fail
      refine (HCt.out W).mono ?_
      rintro e w' ⟨rfl, rfl⟩
      obtain ⟨d0, f0, d1, f1, HR⟩ := put2 G0.out (.int .i64 0) (.int .i64 0)
      have BZ := Lib.hid (put2_below (W := W) (g := w.heap.size) (.int .i64 0) (.int .i64 0) B0.out (Nat.le_refl _) B0.out.size)
      go_wp2_with fail
      (try simp only [Exit.inBlock, Exit.then])
      refine bodyPost_ret (v := .tuple #[.agg #[.int .i64 0, .int .i64 0], .bool false]) (results_row_tmp (p := 2) (u := 3) rfl _ _ w.heap.size 107 _ _ _ rfl HR.out Tryd.underlying107 rfl sizeHead) rfl ?_
      exact .inl ⟨0, 0, HN.out, rfl, BZ.out⟩
    · have HCt := Lib.hid (fun w => show Calls Tryd.prog 184 #[.string (sL l), .string ⟨#[32]⟩] w fun e w' => e = .returned (.tuple #[.string (sL f), .string (sL r), .bool true]) ∧ ∃ m, w' = w.drewN m from by rw [hfr]; exact Cut_hit f r 32 hf (by rw [← hfr]; omega) w)
      generalize sL f = fs at *
      generalize sL r = rs at *
      generalize sL l = s at *
      clear hp ht hfr hf hl hnone
      go_enter Tryd.func185, Tryd.ntmps185
      go_wp2_with fail
      refine (HCP.out W).mono ?_
      rintro e w' ⟨rfl, rfl⟩
      go_wp2_with fail
      refine (HCt.out W).mono ?_
      rintro e w' ⟨rfl, m, rfl⟩
      have B1 := Lib.hid (bdDN B0.out m)
      have G1 := Lib.hid (show (W.drewN m).heap[w.heap.size]? = some (.cells #[.int .i64 0, .int .i64 0] 107 (0, 0)) from G0.out)
      generalize W.drewN m = w1 at *
      obtain ⟨d0, f0, d1, f1, HR⟩ := put2 G1.out (.int .i64 0) (.int .i64 0)
      have BZ := Lib.hid (put2_below (W := w1) (g := w.heap.size) (.int .i64 0) (.int .i64 0) B1.out (Nat.le_refl _) B1.out.size)
      go_wp2_with fail
      (try simp only [Exit.inBlock, Exit.then])
      refine bodyPost_ret (v := .tuple #[.agg #[.int .i64 0, .int .i64 0], .bool false]) (results_row_tmp (p := 2) (u := 3) rfl _ _ w.heap.size 107 _ _ _ rfl HR.out Tryd.underlying107 rfl sizeHead) rfl ?_
      exact .inl ⟨0, 0, HN.out, rfl, BZ.out⟩
  rw [hp, ht] at HCP
  rcases sp_cases v with hsp | ⟨f, r, hfr, hf⟩
  · have HN := Lib.hid (show hdO l = none by rw [hv]; exact hd_nosp hsp)
    have HCt := Lib.hid (fun w => show Calls Tryd.prog 184 #[.string (sL v), .string ⟨#[32]⟩] w _ from Cut_miss v 32 hsp w)
    generalize sL v = vs at *
    generalize sL l = s at *
    clear hp ht hsp hl hv
    go_enter Tryd.func185, Tryd.ntmps185
    go_wp2_with fail
    refine (HCP.out W).mono ?_
    rintro e w' ⟨rfl, rfl⟩
    go_wp2_with fail
    refine (HCt.out W).mono ?_
    rintro e w' ⟨rfl, rfl⟩
    obtain ⟨d0, f0, d1, f1, HR⟩ := put2 G0.out (.int .i64 0) (.int .i64 0)
    have BZ := Lib.hid (put2_below (W := W) (g := w.heap.size) (.int .i64 0) (.int .i64 0) B0.out (Nat.le_refl _) B0.out.size)
    go_wp2_with fail
    (try simp only [Exit.inBlock, Exit.then])
    refine bodyPost_ret (v := .tuple #[.agg #[.int .i64 0, .int .i64 0], .bool false]) (results_row_tmp (p := 2) (u := 3) rfl _ _ w.heap.size 107 _ _ _ rfl HR.out Tryd.underlying107 rfl sizeHead) rfl ?_
    exact .inl ⟨0, 0, HN.out, rfl, BZ.out⟩
  have hvl : v.length ≤ 60 := by have := congrArg List.length hv; rw [List.length_append] at this; omega
  have hfl : f.length ≤ 60 ∧ r.length ≤ 60 := by rw [hfr] at hvl; simp at hvl; omega
  have HCt := Lib.hid (fun w => show Calls Tryd.prog 184 #[.string (sL v), .string ⟨#[32]⟩] w fun e w' => e = .returned (.tuple #[.string (sL f), .string (sL r), .bool true]) ∧ ∃ m, w' = w.drewN m from by rw [hfr]; exact Cut_hit f r 32 hf (by rw [← hfr]; omega) w)
  have HA1 := Lib.hid (fun w h => Atoi_any f (by omega) w h)
  have HA2 := Lib.hid (fun w h => Atoi_any r (by omega) w h)
  have hlv : l = pgW ++ (f ++ 32 :: r) := by rw [hv, hfr]
  have HSp := Lib.hid (fun n x (h : IsHd l n x) => hd_split hf (by rw [← hlv]; exact h))
  have HLv := Lib.hid hlv
  have HSL := Lib.hid (sL_bl (sL l))
  obtain ⟨sv, hsv⟩ : ∃ sv, sL v = sv := ⟨_, rfl⟩
  obtain ⟨sl, hsl⟩ : ∃ sl, sL l = sl := ⟨_, rfl⟩
  have HSl := Lib.hid hsl
  rw [hsv, hsl] at HCP
  rw [hsv] at HCt
  rw [hsl]
  generalize sL f = fs at *
  generalize sL r = rs at *
  clear hp ht hfr hf hl hv hvl hfl hlv hsv hsl
  go_enter Tryd.func185, Tryd.ntmps185
  go_wp2_with fail
  refine (HCP.out W).mono ?_
  rintro e w' ⟨rfl, rfl⟩
  go_wp2_with fail
  refine (HCt.out W).mono ?_
  rintro e w' ⟨rfl, m, rfl⟩
  have B1 := Lib.hid (bdDN B0.out m)
  have T1 := Lib.hid (HT.out.up (bdDN (Below.refl W.heap.size W) m))
  have S1 := Lib.hid (show w.heap.size < (W.drewN m).heap.size from hs0)
  have G1 := Lib.hid (show (W.drewN m).heap[w.heap.size]? = some (.cells #[.int .i64 0, .int .i64 0] 107 (0, 0)) from G0.out)
  clear HT B0 G0 s0 hs0 hW HCP HCt
  generalize W.drewN m = w1 at *
  go_wp2_with fail
  refine (HA1.out w1 T1.out).mono ?_
  rintro e w2 (⟨nv, ha1, rfl, hb⟩ | ⟨ha1, nv, ty, p, rfl, hb⟩)
  · have B2 := Lib.hid (B1.out.trans (hb.mono B1.out.size))
    have T2 := Lib.hid (T1.out.up hb)
    have S2 := Lib.hid (Nat.lt_of_lt_of_le S1.out hb.size)
    have G2 := Lib.hid ((hb.block w.heap.size S1.out).trans G1.out)
    clear hb
    go_wp2_with fail
    refine (HA2.out w2 T2.out).mono ?_
    rintro e w3 (⟨xv, ha2, rfl, hb⟩ | ⟨ha2, xv, ty2, p2, rfl, hb⟩)
    · have B3 := Lib.hid (B2.out.trans (hb.mono B2.out.size))
      have T3 := Lib.hid (T2.out.up hb)
      have S3 := Lib.hid (Nat.lt_of_lt_of_le S2.out hb.size)
      have G3 := Lib.hid ((hb.block w.heap.size S2.out).trans G2.out)
      clear hb
      by_cases q1 : 0 ≤ nv
      case neg =>
        have e1 : decide (nv < 0) = true := decide_eq_true (by omega)
        have HN := Lib.hid (show hdO l = none from hdO_none.2 fun n x hh => by
          have h1 := (HSp.out n x hh).1
          rw [h1, atoi_D (by have := hh.1; omega)] at ha1
          injection ha1 with ha1
          omega)
        clear q1 ha1 ha2
        obtain ⟨d0, f0, d1, f1, HR⟩ := put2 G3.out (.int .i64 0) (.int .i64 0)
        have BZ := Lib.hid (put2_below (W := w3) (g := w.heap.size) (.int .i64 0) (.int .i64 0) B3.out (Nat.le_refl _) B3.out.size)
        go_wp2_with fail
        (try simp only [Exit.inBlock, Exit.then])
        refine bodyPost_ret (v := .tuple #[.agg #[.int .i64 0, .int .i64 0], .bool false]) (results_row_tmp (p := 2) (u := 3) rfl _ _ w.heap.size 107 _ _ _ rfl HR.out Tryd.underlying107 rfl sizeHead) rfl ?_
        exact .inl ⟨0, 0, HN.out, rfl, BZ.out⟩
      have e1 : decide (nv < 0) = false := decide_eq_false (by omega)
      by_cases q2 : nv ≤ 64
      case neg =>
        have e2 : decide (64 < nv) = true := decide_eq_true (by omega)
        have HN := Lib.hid (show hdO l = none from hdO_none.2 fun n x hh => by
          have h1 := (HSp.out n x hh).1
          have h2 := hh.1
          rw [h1, atoi_D (by omega)] at ha1
          injection ha1 with ha1
          omega)
        clear q1 q2 ha1 ha2
        obtain ⟨d0, f0, d1, f1, HR⟩ := put2 G3.out (.int .i64 0) (.int .i64 0)
        have BZ := Lib.hid (put2_below (W := w3) (g := w.heap.size) (.int .i64 0) (.int .i64 0) B3.out (Nat.le_refl _) B3.out.size)
        go_wp2_with fail
        (try simp only [Exit.inBlock, Exit.then])
        refine bodyPost_ret (v := .tuple #[.agg #[.int .i64 0, .int .i64 0], .bool false]) (results_row_tmp (p := 2) (u := 3) rfl _ _ w.heap.size 107 _ _ _ rfl HR.out Tryd.underlying107 rfl sizeHead) rfl ?_
        exact .inl ⟨0, 0, HN.out, rfl, BZ.out⟩
      have e2 : decide (64 < nv) = false := decide_eq_false (by omega)
      have HIS := Lib.hid (isSum_any xv w3)
      cases q3 : smB xv
      case false =>
        rw [q3] at HIS
        have HN := Lib.hid (show hdO l = none from hdO_none.2 fun n x hh => by
          have h1 := (HSp.out n x hh).2
          have h2 := hh.2.1
          rw [h1, atoi_D (by omega)] at ha2
          injection ha2 with ha2
          rw [← ha2, smB_iff.2 (by unfold Sm1; omega)] at q3
          cases q3)
        clear q1 q2 ha1 ha2 q3
        go_wp2_with fail
        refine HIS.out.mono ?_
        rintro e w' ⟨rfl, rfl⟩
        obtain ⟨d0, f0, d1, f1, HR⟩ := put2 G3.out (.int .i64 0) (.int .i64 0)
        have BZ := Lib.hid (put2_below (W := w3) (g := w.heap.size) (.int .i64 0) (.int .i64 0) B3.out (Nat.le_refl _) B3.out.size)
        go_wp2_with fail
        (try simp only [Exit.inBlock, Exit.then])
        refine bodyPost_ret (v := .tuple #[.agg #[.int .i64 0, .int .i64 0], .bool false]) (results_row_tmp (p := 2) (u := 3) rfl _ _ w.heap.size 107 _ _ _ rfl HR.out Tryd.underlying107 rfl sizeHead) rfl ?_
        exact .inl ⟨0, 0, HN.out, rfl, BZ.out⟩
      rw [q3] at HIS
      have hsm := smB_iff.1 q3
      unfold Sm1 at hsm
      obtain ⟨n, rfl⟩ : ∃ n : Nat, nv = (n : Int) := ⟨nv.toNat, by omega⟩
      obtain ⟨x, rfl⟩ : ∃ x : Nat, xv = (x : Int) := ⟨xv.toNat, by omega⟩
      have n2 : decide (64 < n) = false := decide_eq_false (by omega)
      obtain ⟨W4, hW4, k4, s4, b4⟩ := one_blk w3 #[.int .i64 n, .int .i64 x] 107
      have c0 : W4.cell? ⟨w3.heap.size, 0, none⟩ = some (.int .i64 n) := by rw [blk_cell k4]; rfl
      have c1 : W4.cell? ⟨w3.heap.size, 1, none⟩ = some (.int .i64 x) := by rw [blk_cell k4]; rfl
      have B4 := Lib.hid (B3.out.trans (b4.mono B3.out.size))
      have S4 := Lib.hid (Nat.lt_of_lt_of_le S3.out b4.size)
      have G4 := Lib.hid ((b4.block w.heap.size S3.out).trans G3.out)
      have HTx := Lib.hid (text_any n x W4.drew (by omega) (by omega) ((T3.out.up b4).up ((Below.refl _ _).drew)))
      have HK := Lib.hid (fun w' (hb : Below W4.heap.size W4 w') => (show w'.cell? ⟨w3.heap.size, 0, none⟩ = some (.int .i64 n) ∧ w'.cell? ⟨w3.heap.size, 1, none⟩ = some (.int .i64 x) from ⟨(hb.cell s4).trans c0, (hb.cell s4).trans c1⟩))
      have HS0 := Lib.hid (HK.out W4.drew (Below.refl _ _).drew)
      have HQ := Lib.hid (show n ≤ 64 ∧ x < 2147483647 by omega)
      have HNE := Lib.hid (show w3.heap.size ≠ w.heap.size from Nat.ne_of_gt S3.out)
      have H1 := Lib.hid ha1
      have H2 := Lib.hid ha2
      by_cases hc : l = canon n x
      case pos =>
        have HH := Lib.hid (show hdO l = some (n, x) from hdO_some.2 ⟨HQ.out.1, HQ.out.2, hc⟩)
        have es : sL (canon n x) = sl := by rw [← hc, HSl.out]
        rw [es] at HTx
        have ee : (sl.toList == sl.toList) = true := by simp
        clear es
        clear q1 q2 q3 hsm ha1 ha2 k4 b4 hc
        go_wp2_with fail
        refine HIS.out.mono ?_
        rintro e w' ⟨rfl, rfl⟩
        go_wp2_with fail
        go_region_held3 (fun w' => w'.cell? ⟨w3.heap.size, 0, none⟩ = some (.int .i64 n) ∧ w'.cell? ⟨w3.heap.size, 1, none⟩ = some (.int .i64 x))
          (first | exact HS0.out | exact SK5.out | exact SK6.out)
          ((first
            | (go_at_call 91; refine HTx.out.mono ?_; rintro e w5 ⟨rfl, hb⟩; have B5 := Lib.hid (B4.out.trans (((Below.refl W4.heap.size W4).drew.trans hb).mono B4.out.size)); have SK5 := Lib.hid (HK.out w5 ((Below.refl _ _).drew.trans hb)); have hg5 := ((((Below.refl W4.heap.size W4).drew.trans hb).block w.heap.size S4.out).trans G4.out); obtain ⟨d0, f0, d1, f1, HR⟩ := put2 hg5 (.int .i64 (n : Int)) (.int .i64 (x : Int)); have BZ := Lib.hid (put2_below (W := w5) (g := w.heap.size) (.int .i64 (n : Int)) (.int .i64 (x : Int)) B5.out (Nat.le_refl _) B5.out.size); have SK6 := Lib.hid (And.intro ((set_off2 HNE.out 0 (.int .i64 (n : Int)) (.int .i64 (x : Int))).trans SK5.out.1) ((set_off2 HNE.out 1 (.int .i64 (n : Int)) (.int .i64 (x : Int))).trans SK5.out.2)); clear hb hg5)
            | fail))
        all_goals (
          go_wp2_with fail
          (try simp only [Exit.inBlock, Exit.then])
          refine bodyPost_ret (v := .tuple #[.agg #[.int .i64 (n : Int), .int .i64 (x : Int)], .bool true]) (results_row_tmp (p := 2) (u := 3) rfl _ _ w.heap.size 107 _ _ _ rfl HR.out Tryd.underlying107 rfl sizeHead) rfl ?_
          exact .inr ⟨n, x, HH.out, rfl, BZ.out⟩)
      case neg =>
        have HH := Lib.hid (show hdO l = none from hdO_none.2 fun n' x' hh => by
          have h1 := HSp.out n' x' hh
          have a1 := H1.out
          have a2 := H2.out
          have := hh.1
          have := hh.2.1
          rw [h1.1, atoi_D (by omega)] at a1
          rw [h1.2, atoi_D (by omega)] at a2
          injection a1 with a1
          injection a2 with a2
          have e1 : n' = n := by omega
          have e2 : x' = x := by omega
          rw [e1, e2] at hh
          exact hc hh.2.2)
        have ee : ((sL (canon n x)).toList == sl.toList) = false := by
          rw [bl_eqb]
          exact decide_eq_false fun h => hc (by rw [← bl_sL l, HSl.out, ← h, bl_sL])
        generalize sL (canon n x) = cs at *
        clear q1 q2 q3 hsm ha1 ha2 k4 b4 hc
        go_wp2_with fail
        refine HIS.out.mono ?_
        rintro e w' ⟨rfl, rfl⟩
        go_wp2_with fail
        go_region_held3 (fun w' => w'.cell? ⟨w3.heap.size, 0, none⟩ = some (.int .i64 n) ∧ w'.cell? ⟨w3.heap.size, 1, none⟩ = some (.int .i64 x))
          (first | exact HS0.out | exact SK5.out | exact SK6.out)
          ((first
            | (go_at_call 91; refine HTx.out.mono ?_; rintro e w5 ⟨rfl, hb⟩; have B5 := Lib.hid (B4.out.trans (((Below.refl W4.heap.size W4).drew.trans hb).mono B4.out.size)); have SK5 := Lib.hid (HK.out w5 ((Below.refl _ _).drew.trans hb)); have hg5 := ((((Below.refl W4.heap.size W4).drew.trans hb).block w.heap.size S4.out).trans G4.out); obtain ⟨d0, f0, d1, f1, HR⟩ := put2 hg5 (.int .i64 (n : Int)) (.int .i64 (x : Int)); have BZ := Lib.hid (put2_below (W := w5) (g := w.heap.size) (.int .i64 (n : Int)) (.int .i64 (x : Int)) B5.out (Nat.le_refl _) B5.out.size); have SK6 := Lib.hid (And.intro ((set_off2 HNE.out 0 (.int .i64 (n : Int)) (.int .i64 (x : Int))).trans SK5.out.1) ((set_off2 HNE.out 1 (.int .i64 (n : Int)) (.int .i64 (x : Int))).trans SK5.out.2)); clear hb hg5)
            | fail))
        all_goals (
          go_wp2_with fail
          (try simp only [Exit.inBlock, Exit.then])
          refine bodyPost_ret (v := .tuple #[.agg #[.int .i64 (n : Int), .int .i64 (x : Int)], .bool false]) (results_row_tmp (p := 2) (u := 3) rfl _ _ w.heap.size 107 _ _ _ rfl HR.out Tryd.underlying107 rfl sizeHead) rfl ?_
          exact .inl ⟨n, x, HH.out, rfl, BZ.out⟩)
    · have B3 := Lib.hid (B2.out.trans (hb.mono B2.out.size))
      have T3 := Lib.hid (T2.out.up hb)
      have S3 := Lib.hid (Nat.lt_of_lt_of_le S2.out hb.size)
      have G3 := Lib.hid ((hb.block w.heap.size S2.out).trans G2.out)
      clear hb
      have HN := Lib.hid (show hdO l = none from hdO_none.2 fun n x hh => by
        have h1 := (HSp.out n x hh).2
        have h2 := hh.2.1
        exact ha2 x (by rw [h1, atoi_D (by omega)]))
      clear ha1 ha2
      obtain ⟨d0, f0, d1, f1, HR⟩ := put2 G3.out (.int .i64 0) (.int .i64 0)
      have BZ := Lib.hid (put2_below (W := w3) (g := w.heap.size) (.int .i64 0) (.int .i64 0) B3.out (Nat.le_refl _) B3.out.size)
      go_wp2_with fail
      (try simp only [Exit.inBlock, Exit.then])
      refine bodyPost_ret (v := .tuple #[.agg #[.int .i64 0, .int .i64 0], .bool false]) (results_row_tmp (p := 2) (u := 3) rfl _ _ w.heap.size 107 _ _ _ rfl HR.out Tryd.underlying107 rfl sizeHead) rfl ?_
      exact .inl ⟨0, 0, HN.out, rfl, BZ.out⟩
  · have B2 := Lib.hid (B1.out.trans (hb.mono B1.out.size))
    have T2 := Lib.hid (T1.out.up hb)
    have S2 := Lib.hid (Nat.lt_of_lt_of_le S1.out hb.size)
    have G2 := Lib.hid ((hb.block w.heap.size S1.out).trans G1.out)
    clear hb
    go_wp2_with fail
    refine (HA2.out w2 T2.out).mono ?_
    rintro e w3 (⟨xv, ha2, rfl, hb⟩ | ⟨ha2, xv, ty2, p2, rfl, hb⟩)
    · have B3 := Lib.hid (B2.out.trans (hb.mono B2.out.size))
      have T3 := Lib.hid (T2.out.up hb)
      have S3 := Lib.hid (Nat.lt_of_lt_of_le S2.out hb.size)
      have G3 := Lib.hid ((hb.block w.heap.size S2.out).trans G2.out)
      clear hb
      have HN := Lib.hid (show hdO l = none from hdO_none.2 fun n x hh => by
        have h1 := (HSp.out n x hh).1
        have h2 := hh.1
        exact ha1 n (by rw [h1, atoi_D (by omega)]))
      clear ha1 ha2
      obtain ⟨d0, f0, d1, f1, HR⟩ := put2 G3.out (.int .i64 0) (.int .i64 0)
      have BZ := Lib.hid (put2_below (W := w3) (g := w.heap.size) (.int .i64 0) (.int .i64 0) B3.out (Nat.le_refl _) B3.out.size)
      go_wp2_with fail
      (try simp only [Exit.inBlock, Exit.then])
      refine bodyPost_ret (v := .tuple #[.agg #[.int .i64 0, .int .i64 0], .bool false]) (results_row_tmp (p := 2) (u := 3) rfl _ _ w.heap.size 107 _ _ _ rfl HR.out Tryd.underlying107 rfl sizeHead) rfl ?_
      exact .inl ⟨0, 0, HN.out, rfl, BZ.out⟩
    · have B3 := Lib.hid (B2.out.trans (hb.mono B2.out.size))
      have T3 := Lib.hid (T2.out.up hb)
      have S3 := Lib.hid (Nat.lt_of_lt_of_le S2.out hb.size)
      have G3 := Lib.hid ((hb.block w.heap.size S2.out).trans G2.out)
      clear hb
      have HN := Lib.hid (show hdO l = none from hdO_none.2 fun n x hh => by
        have h1 := (HSp.out n x hh).1
        have h2 := hh.1
        exact ha1 n (by rw [h1, atoi_D (by omega)]))
      clear ha1 ha2
      obtain ⟨d0, f0, d1, f1, HR⟩ := put2 G3.out (.int .i64 0) (.int .i64 0)
      have BZ := Lib.hid (put2_below (W := w3) (g := w.heap.size) (.int .i64 0) (.int .i64 0) B3.out (Nat.le_refl _) B3.out.size)
      go_wp2_with fail
      (try simp only [Exit.inBlock, Exit.then])
      refine bodyPost_ret (v := .tuple #[.agg #[.int .i64 0, .int .i64 0], .bool false]) (results_row_tmp (p := 2) (u := 3) rfl _ _ w.heap.size 107 _ _ _ rfl HR.out Tryd.underlying107 rfl sizeHead) rfl ?_
      exact .inl ⟨0, 0, HN.out, rfl, BZ.out⟩
end Go.Proofs.YtoenecgjiejljaaDoor

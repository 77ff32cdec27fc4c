/-
  Passage, of the reference: the walk. Every chain.
-/
import Derived.Test.YtegehfcnclpdeaaFrr
import Derived.Test.YtegehfcnclpdeaaFcp
namespace Go.Proofs.Ytegehfcnclpdeaa
open Go.RowKit
set_option linter.unusedVariables false

def rpV (L : List (List Int)) (i j : Int) : Int × Int := if ckE L [i, j] = 0 then rpF L i.toNat j.toNat else (0, 0)
set_option maxRecDepth 8000 in
set_option maxHeartbeats 2000000 in
theorem RPassage_any (A : Option Addr) (rs : List Rw) (c : Nat) (hs : SzR rs) (hl : rs.length ≤ 9223372036854775807) (i j : Int) (w : World) (hr : RdR w w.heap.size A rs) :
    Calls Try.prog 18 #[.slice A rs.length c, .int .i64 i, .int .i64 j] w fun e w' => e = .returned (.tuple #[ratZ (rpV (rowsL rs) i j), .int .i64 (ckE (rowsL rs) [i, j])]) ∧ Below w.heap.size w w' := by
  obtain ⟨s, hS⟩ : ∃ s, w.heap.size = s := ⟨_, rfl⟩
  have HS := Lib.hid hS
  obtain ⟨W, hW, hg, hrd, hB, hzW⟩ := ck_start w s i j hS
  have hrW : RdR W W.heap.size A rs := ((hr.below (by rw [hS]; exact hB) (Nat.le_refl _)).more (by omega))
  have HCs := Lib.hid (places_any A rs c hs hl (some ⟨s + 1, 0, none⟩) [i, j] 2 (by simp) W hrW hrd)
  have HW := Lib.hid hW
  have HB := Lib.hid hB
  have HG := Lib.hid hg
  by_cases h0 : ckE (rowsL rs) [i, j] = 0
  · obtain ⟨hv, hps⟩ := ckE_ok h0
    obtain ⟨hi0, hi1⟩ := hps i (by simp)
    obtain ⟨hj0, hj1⟩ := hps j (by simp)
    rw [rows_len] at hi1 hj1
    have HV := Lib.hid (show rpV (rowsL rs) i j = rpF (rowsL rs) i.toNat j.toNat from if_pos h0)
    obtain ⟨⟨_, hn5⟩, hlen, hok, _⟩ := vdE_ok hv
    have HCh := Lib.hid (fun w2 (hb : Below W.heap.size W w2) => passageR_any A rs c i.toNat j.toNat (by omega) (by omega) hlen hok (okl_of hv i.toNat (by omega)).2.2 w2 (hrW.up hb))
    rw [h0] at HCs ⊢
    rw [HV.out]
    obtain ⟨p, rfl⟩ := Int.eq_ofNat_of_zero_le hi0
    obtain ⟨q, rfl⟩ := Int.eq_ofNat_of_zero_le hj0
    simp only [Int.toNat_natCast] at HCh ⊢
    obtain ⟨⟨v1, v2⟩, hvv⟩ : ∃ v, rpF (rowsL rs) p q = v := ⟨_, rfl⟩
    rw [hvv] at HCh ⊢
    unfold ratZ at HCh ⊢
    dsimp only at HCh ⊢
    generalize rs.length = n at *
    clear hr hs hl hW hB hrW hg h0 hv hi0 hi1 hj0 hj1 hvv HV hn5 hlen hok hrd hps
    go_enter Try.func18, Try.ntmps18
    go_wp2_with fail
    rw [HW.out]
    refine HCs.out.mono ?_
    rintro e w2 ⟨rfl, rfl⟩
    have HCi := Lib.hid (HCh.out W (Below.refl _ _))
    go_wp2_with fail
    refine HCi.out.mono ?_
    rintro e w3 ⟨rfl, hb3⟩
    have hB3 := HB.out.trans (hb3.mono (by omega))
    have hg3 := (hb3.block s (by omega)).trans HG.out
    obtain ⟨d0, f0, d1, f1, HR⟩ := put2 hg3 (.int .i64 v1) (.int .i64 v2)
    have BZ := Lib.hid (put2_below (W := w3) (g := s) (.int .i64 v1) (.int .i64 v2) hB3 (by omega) (by have := hb3.size; omega))
    clear hg3 hB3 hb3
    go_wp2_with fail
    (try simp only [Exit.inBlock, Exit.then])
    exact bodyPost_ret (v := .tuple #[.agg #[.int .i64 v1, .int .i64 v2], .int .i64 0]) (results_row_tmp (p := 6) (u := 7) rfl _ _ s 29 _ _ _ rfl HR.out Try.underlying29 rfl sizeRat) rfl ⟨rfl, by rw [HS.out]; exact BZ.out⟩
  · have HV := Lib.hid (show ratZ (rpV (rowsL rs) i j) = .agg #[.int .i64 0, .int .i64 0] by unfold rpV; rw [if_neg h0]; rfl)
    rw [HV.out]
    have e1 : (ckE (rowsL rs) [i, j] != 0) = true := by simpa using h0
    generalize ckE (rowsL rs) [i, j] = E at *
    generalize rs.length = n at *
    clear hr hs hl hW hB hrW hg h0 hrd HV
    go_enter Try.func18, Try.ntmps18
    go_wp2_with fail
    rw [HW.out]
    refine HCs.out.mono ?_
    rintro e w2 ⟨rfl, rfl⟩
    obtain ⟨d0, f0, d1, f1, HR⟩ := put2 HG.out (.int .i64 0) (.int .i64 0)
    have BZ := Lib.hid (put2_below (W := W) (g := s) (.int .i64 0) (.int .i64 0) HB.out (by omega) (by omega))
    go_wp2_with fail
    (try simp only [Exit.inBlock, Exit.then])
    exact bodyPost_ret (v := .tuple #[.agg #[.int .i64 0, .int .i64 0], .int .i64 E]) (results_row_tmp (p := 6) (u := 7) rfl _ _ (s) 29 _ _ _ rfl HR.out Try.underlying29 rfl sizeRat) rfl ⟨rfl, by rw [HS.out]; exact BZ.out⟩
theorem plu_one (x y : Int) : pluF (x, 1) (y, 1) = (x + y, 1) := by
  have h1 : lcmZ 1 1 = 1 := rfl
  have h2 : gcdZ (x + y) 1 = 1 := Nat.gcd_one_right _
  unfold pluF pluN
  dsimp only
  rw [h1, Int.tdiv_self (by decide), Int.mul_one, Int.mul_one]
  unfold frZ
  rw [h2]
  exact congrArg (fun z => (z, (1 : Int))) (Int.tdiv_one _)
theorem tot_one (L : List (List Int)) (j : Nat) {l : List Int} (h : ∀ k, 0 ≤ l.getD k 0) : ∀ k, totF (chF L j 0) (pasU l k) = (if j < k then l.getD j 0 else 0, 1)
  | 0 => rfl
  | k + 1 => by
    have ih := tot_one L j h k
    have hk := h k
    show totF _ (if 0 < l.getD k 0 then _ else _) = _
    by_cases e : 0 < l.getD k 0
    · rw [if_pos e, totF_snoc, ih]
      show pluF (_, 1) ((if k = j then (1 : Int) else 0) * l.getD k 0, 1) = _
      rw [plu_one]
      by_cases e1 : k = j
      · subst e1
        rw [if_neg (by omega), if_pos rfl, if_pos (by omega)]
        simp
      · rw [if_neg e1, Int.zero_mul, Int.add_zero]
        by_cases e2 : j < k
        · rw [if_pos e2, if_pos (by omega)]
        · rw [if_neg e2, if_neg (by omega)]
    · rw [if_neg e, ih]
      by_cases e2 : j < k
      · rw [if_pos e2, if_pos (by omega)]
      · rw [if_neg e2]
        by_cases e1 : k = j
        · subst e1; rw [if_pos (by omega), show l.getD k 0 = 0 by omega]
        · rw [if_neg (by omega)]
theorem ch_one {L : List (List Int)} {n : Nat} (h : Okl L n) {i j : Nat} (hi : i < n) (hj : j < n) : chF L j 1 i = rpF L i j := by
  obtain ⟨hl, hn, _⟩ := h i hi
  have hg : ∀ k, 0 ≤ (L.getD i []).getD k 0 := fun k => by
    by_cases e : k < (L.getD i []).length
    · rw [List.getD_eq_getElem?_getD, List.getElem?_eq_getElem e]
      exact (hl.2 _ (List.getElem_mem e)).1
    · rw [List.getD_eq_getElem?_getD, List.getElem?_eq_none (by omega)]
      exact Int.le_refl 0
  show frZ (totF (chF L j 0) (pasU (L.getD i []) (L.getD i []).length)).1 ((totF (chF L j 0) (pasU (L.getD i []) (L.getD i []).length)).2 * lsum (L.getD i [])) = _
  rw [tot_one L j hg, if_pos (by omega)]
  show frZ _ (1 * _) = _
  rw [Int.one_mul]
  rfl
theorem pa_rp {rs : List Rw} (i j : Int) : paV (rowsL rs) i j = rpV (rowsL rs) i j := by
  unfold paV rpV
  by_cases h : ckE (rowsL rs) [i, j] = 0
  · obtain ⟨hv, hps⟩ := ckE_ok h
    obtain ⟨hi0, hi1⟩ := hps i (by simp)
    obtain ⟨hj0, hj1⟩ := hps j (by simp)
    rw [rows_len] at hi1 hj1
    rw [if_pos h, if_pos h]
    exact ch_one (okl_of hv) (by omega) (by omega)
  · rw [if_neg h, if_neg h]
end Go.Proofs.Ytegehfcnclpdeaa

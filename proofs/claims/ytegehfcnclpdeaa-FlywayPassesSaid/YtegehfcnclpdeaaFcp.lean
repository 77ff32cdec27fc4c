/-
  Passage and Chance: the walks. Every chain.
-/
import Derived.Test.YtegehfcnclpdeaaFcv
import Derived.Test.YtegehfcnclpdeaaFvl
namespace Go.Proofs.Ytegehfcnclpdeaa
open Go.RowKit
set_option linter.unusedVariables false

theorem okl_of {rs : List Rw} (h : vdE (rowsL rs) = 0) : Okl (rowsL rs) rs.length := by
  obtain ⟨_, h1, h2, h3⟩ := vdE_ok h
  intro i hi
  obtain ⟨⟨A, c, l⟩, hrow⟩ : ∃ r, rs[i]? = some r := ⟨_, List.getElem?_eq_getElem hi⟩
  have hm := List.mem_of_getElem? hrow
  rw [row_lsum hrow]
  obtain ⟨d, hd, hd0⟩ := h3 _ hm
  refine ⟨h2 _ hm, h1 _ hm, ?_⟩
  have : ∀ l : List Int, (∀ d ∈ l, 0 ≤ d) → ∀ d ∈ l, d ≤ lsum l := fun l => by
    induction l with
    | nil => intro _ d hd; cases hd
    | cons a l ih =>
      intro hl d hd
      have ha := hl a (by simp)
      have h0 : 0 ≤ lsum l := by
        have : ∀ l : List Int, (∀ d ∈ l, 0 ≤ d) → 0 ≤ lsum l := fun l => by
          induction l with
          | nil => intro _; exact Int.le_refl 0
          | cons b l ih2 => intro hl2; have h1 := hl2 b (by simp); have h2 := ih2 fun d hd => hl2 d (by simp [hd]); show 0 ≤ b + lsum l; omega
        exact this l fun d hd => hl d (by simp [hd])
      show d ≤ a + lsum l
      rcases List.mem_cons.1 hd with rfl | hd
      · omega
      · have := ih (fun d hd => hl d (by simp [hd])) d hd; omega
  have h5 := this l (fun d hd => ((h2 _ hm).2 d hd).1) d hd
  omega
def paV (L : List (List Int)) (i j : Int) : Int × Int := if ckE L [i, j] = 0 then chF L j.toNat 1 i.toNat else (0, 0)
/-- The memory in which the answer and the places lie. -/
theorem ck_start (w : World) (s : Nat) (i j : Int) (hs : w.heap.size = s) : ∃ W, (w.alloc (.cells #[.int .i64 0, .int .i64 0] 29)).alloc (.cells #[.int .i64 i, .int .i64 j] 3) = W ∧
    W.heap[s]? = some (.cells #[.int .i64 0, .int .i64 0] 29 (0, 0)) ∧ Rd W W.heap.size (some ⟨s + 1, 0, none⟩) (ints [i, j]) ∧ Below s w W ∧ W.heap.size = s + 1 + 1 := by
  have hg0 := heap_alloc_new w (.cells #[.int .i64 0, .int .i64 0] 29)
  have hsz : (w.alloc (.cells #[.int .i64 0, .int .i64 0] 29)).heap.size = s + 1 := by simp [hs]
  rw [hs] at hg0
  have hg := blk_alloc' (o := .cells #[.int .i64 i, .int .i64 j] 3) hg0
  have h2 := heap_alloc_new (w.alloc (.cells #[.int .i64 0, .int .i64 0] 29)) (.cells #[.int .i64 i, .int .i64 j] 3)
  rw [hsz] at h2
  exact ⟨_, rfl, hg, Rd.of_block (xs := ints [i, j]) h2, ((Below.refl s w).alloc (by omega) _).alloc (by omega) _, by simp [hs]⟩
set_option maxRecDepth 8000 in
set_option maxHeartbeats 2000000 in
theorem Passage_any (A : Option Addr) (rs : List Rw) (c : Nat) (hs : SzR rs) (hl : rs.length ≤ 9223372036854775807) (i j : Int) (w : World) (hr : RdR w w.heap.size A rs) :
    Calls Try.prog 17 #[.slice A rs.length c, .int .i64 i, .int .i64 j] w fun e w' => e = .returned (.tuple #[ratZ (paV (rowsL rs) i j), .int .i64 (ckE (rowsL rs) [i, j])]) ∧ Below w.heap.size w w' := by
  obtain ⟨s, hS⟩ : ∃ s, w.heap.size = s := ⟨_, rfl⟩
  have HS := Lib.hid hS
  obtain ⟨W, hW, hg, hrd, hB, hzW⟩ := ck_start w s i j hS
  have hrW : RdR W W.heap.size A rs := ((hr.below (by rw [hS]; exact hB) (Nat.le_refl _)).more (by omega))
  have HCs := Lib.hid (check_any A rs c hs hl (some ⟨s + 1, 0, none⟩) [i, j] 2 (by simp) W hrW hrd)
  have HW := Lib.hid hW
  have HB := Lib.hid hB
  have HG := Lib.hid hg
  by_cases h0 : ckE (rowsL rs) [i, j] = 0
  · obtain ⟨hv, hps⟩ := ckE_ok h0
    obtain ⟨hi0, hi1⟩ := hps i (by simp)
    obtain ⟨hj0, hj1⟩ := hps j (by simp)
    rw [rows_len] at hi1 hj1
    have HV := Lib.hid (show paV (rowsL rs) i j = chF (rowsL rs) j.toNat 1 i.toNat from if_pos h0)
    obtain ⟨⟨_, hn5⟩, hlen, _⟩ := vdE_ok hv
    have HCh := Lib.hid (fun w2 (hb : Below W.heap.size W w2) => chance_any A rs c hn5 hlen (okl_of hv) j.toNat 1 (by decide) i.toNat (by omega) w2 (hrW.up hb))
    rw [h0] at HCs ⊢
    rw [HV.out]
    obtain ⟨p, rfl⟩ := Int.eq_ofNat_of_zero_le hi0
    obtain ⟨q, rfl⟩ := Int.eq_ofNat_of_zero_le hj0
    simp only [Int.toNat_natCast] at HCh ⊢
    obtain ⟨⟨v1, v2⟩, hvv⟩ : ∃ v, chF (rowsL rs) q 1 p = v := ⟨_, rfl⟩
    rw [hvv] at HCh ⊢
    unfold ratZ at HCh ⊢
    dsimp only at HCh ⊢
    generalize rs.length = n at *
    clear hr hs hl hW hB hrW hg h0 hv hi0 hi1 hj0 hj1 hvv HV hn5 hlen hrd hps
    go_enter Try.func17, Try.ntmps17
    go_wp2_with fail
    rw [HW.out]
    refine HCs.out.mono ?_
    rintro e w2 ⟨rfl, rfl⟩
    have HCi := Lib.hid (HCh.out W (Below.refl _ _))
    go_wp2_with fail
    refine HCi.out.mono ?_
    rintro e w3 ⟨rfl, hb3⟩
    have hB3 := HB.out.trans (hb3.mono (by omega))
    have hg3 := (hb3.block s (by omega)).trans HG.out
    obtain ⟨d0, f0, d1, f1, HR⟩ := put2 hg3 (.int .i64 v1) (.int .i64 v2)
    have BZ := Lib.hid (put2_below (W := w3) (g := s) (.int .i64 v1) (.int .i64 v2) hB3 (by omega) (by have := hb3.size; omega))
    clear hg3 hB3 hb3
    go_wp2_with fail
    (try simp only [Exit.inBlock, Exit.then])
    exact bodyPost_ret (v := .tuple #[.agg #[.int .i64 v1, .int .i64 v2], .int .i64 0]) (results_row_tmp (p := 6) (u := 7) rfl _ _ s 29 _ _ _ rfl HR.out Try.underlying29 rfl sizeRat) rfl ⟨rfl, by rw [HS.out]; exact BZ.out⟩
  · have HV := Lib.hid (show ratZ (paV (rowsL rs) i j) = .agg #[.int .i64 0, .int .i64 0] by unfold paV; rw [if_neg h0]; rfl)
    rw [HV.out]
    have e1 : (ckE (rowsL rs) [i, j] != 0) = true := by simpa using h0
    generalize ckE (rowsL rs) [i, j] = E at *
    generalize rs.length = n at *
    clear hr hs hl hW hB hrW hg h0 hrd HV
    go_enter Try.func17, Try.ntmps17
    go_wp2_with fail
    rw [HW.out]
    refine HCs.out.mono ?_
    rintro e w2 ⟨rfl, rfl⟩
    obtain ⟨d0, f0, d1, f1, HR⟩ := put2 HG.out (.int .i64 0) (.int .i64 0)
    have BZ := Lib.hid (put2_below (W := W) (g := s) (.int .i64 0) (.int .i64 0) HB.out (by omega) (by omega))
    go_wp2_with fail
    (try simp only [Exit.inBlock, Exit.then])
    exact bodyPost_ret (v := .tuple #[.agg #[.int .i64 0, .int .i64 0], .int .i64 E]) (results_row_tmp (p := 6) (u := 7) rfl _ _ (s) 29 _ _ _ rfl HR.out Try.underlying29 rfl sizeRat) rfl ⟨rfl, by rw [HS.out]; exact BZ.out⟩
def chE (L : List (List Int)) (i j st : Int) : Int := if ckE L [i, j] = 0 then (if st < 0 ∨ 3 < st then 1 else 0) else ckE L [i, j]
def chV (L : List (List Int)) (i j st : Int) : Int × Int := if chE L i j st = 0 then chF L j.toNat st.toNat i.toNat else (0, 0)
set_option maxRecDepth 8000 in
set_option maxHeartbeats 2000000 in
theorem Chance_any (A : Option Addr) (rs : List Rw) (c : Nat) (hs : SzR rs) (hl : rs.length ≤ 9223372036854775807) (i j st : Int) (w : World) (hr : RdR w w.heap.size A rs) :
    Calls Try.prog 22 #[.slice A rs.length c, .int .i64 i, .int .i64 j, .int .i64 st] w fun e w' => e = .returned (.tuple #[ratZ (chV (rowsL rs) i j st), .int .i64 (chE (rowsL rs) i j st)]) ∧ Below w.heap.size w w' := by
  obtain ⟨s, hS⟩ : ∃ s, w.heap.size = s := ⟨_, rfl⟩
  have HS := Lib.hid hS
  obtain ⟨W, hW, hg, hrd, hB, hzW⟩ := ck_start w s i j hS
  have hrW : RdR W W.heap.size A rs := ((hr.below (by rw [hS]; exact hB) (Nat.le_refl _)).more (by omega))
  have HCs := Lib.hid (check_any A rs c hs hl (some ⟨s + 1, 0, none⟩) [i, j] 2 (by simp) W hrW hrd)
  have HW := Lib.hid hW
  have HB := Lib.hid hB
  have HG := Lib.hid hg
  by_cases h0 : ckE (rowsL rs) [i, j] = 0
  · obtain ⟨hv, hps⟩ := ckE_ok h0
    obtain ⟨hi0, hi1⟩ := hps i (by simp)
    obtain ⟨hj0, hj1⟩ := hps j (by simp)
    rw [rows_len] at hi1 hj1
    have HEE := Lib.hid (show chE (rowsL rs) i j st = if st < 0 ∨ 3 < st then 1 else 0 from if_pos h0)
    by_cases h3 : st < 0 ∨ 3 < st
    case neg =>
      have he : chE (rowsL rs) i j st = 0 := by rw [HEE.out, if_neg h3]
      have HV := Lib.hid (show chV (rowsL rs) i j st = chF (rowsL rs) j.toNat st.toNat i.toNat from if_pos he)
      obtain ⟨⟨_, hn5⟩, hlen, _⟩ := vdE_ok hv
      have HCh := Lib.hid (fun w2 (hb : Below W.heap.size W w2) => chance_any A rs c hn5 hlen (okl_of hv) j.toNat st.toNat (by omega) i.toNat (by omega) w2 (hrW.up hb))
      rw [h0] at HCs
      rw [HV.out, he]
      obtain ⟨p, rfl⟩ := Int.eq_ofNat_of_zero_le hi0
      obtain ⟨q, rfl⟩ := Int.eq_ofNat_of_zero_le hj0
      obtain ⟨z, rfl⟩ := Int.eq_ofNat_of_zero_le (show 0 ≤ st by omega)
      simp only [Int.toNat_natCast] at HCh ⊢
      obtain ⟨⟨v1, v2⟩, hvv⟩ : ∃ v, chF (rowsL rs) q z p = v := ⟨_, rfl⟩
      rw [hvv] at HCh ⊢
      unfold ratZ at HCh ⊢
      dsimp only at HCh ⊢
      generalize rs.length = n at *
      clear hr hs hl hW hB hrW hg h0 hv hi0 hi1 hj0 hj1 hvv HV hn5 hlen hrd hps he HEE
      have hz0 : (0 : Int) ≤ (z : Int) := by omega
      have hz3 : (z : Int) ≤ 3 := by omega
      go_enter Try.func22, Try.ntmps22
      go_wp2_with fail
      rw [HW.out]
      refine HCs.out.mono ?_
      rintro e w2 ⟨rfl, rfl⟩
      have HCi := Lib.hid (HCh.out W (Below.refl _ _))
      go_wp2_with fail
      refine HCi.out.mono ?_
      rintro e w3 ⟨rfl, hb3⟩
      have hB3 := HB.out.trans (hb3.mono (by omega))
      have hg3 := (hb3.block s (by omega)).trans HG.out
      obtain ⟨d0, f0, d1, f1, HR⟩ := put2 hg3 (.int .i64 v1) (.int .i64 v2)
      have BZ := Lib.hid (put2_below (W := w3) (g := s) (.int .i64 v1) (.int .i64 v2) hB3 (by omega) (by have := hb3.size; omega))
      clear hg3 hB3 hb3
      go_wp2_with fail
      (try simp only [Exit.inBlock, Exit.then])
      exact bodyPost_ret (v := .tuple #[.agg #[.int .i64 v1, .int .i64 v2], .int .i64 0]) (results_row_tmp (p := 8) (u := 9) rfl _ _ s 29 _ _ _ rfl HR.out Try.underlying29 rfl sizeRat) rfl ⟨rfl, by rw [HS.out]; exact BZ.out⟩
    case pos =>
      have he : chE (rowsL rs) i j st = 1 := by rw [HEE.out, if_pos h3]
      have HV := Lib.hid (show ratZ (chV (rowsL rs) i j st) = .agg #[.int .i64 0, .int .i64 0] by unfold chV; rw [if_neg (by rw [he]; decide)]; rfl)
      rw [HV.out, he]
      rw [h0] at HCs
      generalize rs.length = n at *
      clear hr hs hl hW hB hrW hg h0 hrd HV hv hps hi0 hi1 hj0 hj1 he HEE
      by_cases h4 : st < 0
      · have e1 : decide (st < 0) = true := decide_eq_true h4
        go_enter Try.func22, Try.ntmps22
        go_wp2_with fail
        rw [HW.out]
        refine HCs.out.mono ?_
        rintro e w2 ⟨rfl, rfl⟩
        obtain ⟨d0, f0, d1, f1, HR⟩ := put2 HG.out (.int .i64 0) (.int .i64 0)
        have BZ := Lib.hid (put2_below (W := W) (g := s) (.int .i64 0) (.int .i64 0) HB.out (by omega) (by omega))
        go_wp2_with fail
        (try simp only [Exit.inBlock, Exit.then])
        exact bodyPost_ret (v := .tuple #[.agg #[.int .i64 0, .int .i64 0], .int .i64 1]) (results_row_tmp (p := 8) (u := 9) rfl _ _ (s) 29 _ _ _ rfl HR.out Try.underlying29 rfl sizeRat) rfl ⟨rfl, by rw [HS.out]; exact BZ.out⟩
      · have h5 : 3 < st := by omega
        go_enter Try.func22, Try.ntmps22
        go_wp2_with fail
        rw [HW.out]
        refine HCs.out.mono ?_
        rintro e w2 ⟨rfl, rfl⟩
        obtain ⟨d0, f0, d1, f1, HR⟩ := put2 HG.out (.int .i64 0) (.int .i64 0)
        have BZ := Lib.hid (put2_below (W := W) (g := s) (.int .i64 0) (.int .i64 0) HB.out (by omega) (by omega))
        go_wp2_with fail
        (try simp only [Exit.inBlock, Exit.then])
        exact bodyPost_ret (v := .tuple #[.agg #[.int .i64 0, .int .i64 0], .int .i64 1]) (results_row_tmp (p := 8) (u := 9) rfl _ _ (s) 29 _ _ _ rfl HR.out Try.underlying29 rfl sizeRat) rfl ⟨rfl, by rw [HS.out]; exact BZ.out⟩
  · have HEE := Lib.hid (show chE (rowsL rs) i j st = ckE (rowsL rs) [i, j] from if_neg h0)
    have HV := Lib.hid (show ratZ (chV (rowsL rs) i j st) = .agg #[.int .i64 0, .int .i64 0] by unfold chV; rw [if_neg (by rw [HEE.out]; exact h0)]; rfl)
    rw [HV.out, HEE.out]
    have e1 : (ckE (rowsL rs) [i, j] != 0) = true := by simpa using h0
    generalize ckE (rowsL rs) [i, j] = E at *
    generalize rs.length = n at *
    clear hr hs hl hW hB hrW hg h0 hrd HV HEE
    go_enter Try.func22, Try.ntmps22
    go_wp2_with fail
    rw [HW.out]
    refine HCs.out.mono ?_
    rintro e w2 ⟨rfl, rfl⟩
    obtain ⟨d0, f0, d1, f1, HR⟩ := put2 HG.out (.int .i64 0) (.int .i64 0)
    have BZ := Lib.hid (put2_below (W := W) (g := s) (.int .i64 0) (.int .i64 0) HB.out (by omega) (by omega))
    go_wp2_with fail
    (try simp only [Exit.inBlock, Exit.then])
    exact bodyPost_ret (v := .tuple #[.agg #[.int .i64 0, .int .i64 0], .int .i64 E]) (results_row_tmp (p := 8) (u := 9) rfl _ _ (s) 29 _ _ _ rfl HR.out Try.underlying29 rfl sizeRat) rfl ⟨rfl, by rw [HS.out]; exact BZ.out⟩
end Go.Proofs.Ytegehfcnclpdeaa

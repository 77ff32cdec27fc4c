/-
  The time to an end and the chance of an end: the walks of Time and EndChance. Condition: the chain can be read; its equations go well (SOK).
-/
import Derived.Test.YtegehfcnclpdeaaFvk
namespace Go.Proofs.Ytegehfcnclpdeaa
open Go.RowKit
set_option linter.unusedVariables false

theorem results_row_tmp {P : Program} {fn : Func} {p u : Tmp} {ty : TypeId} (h : fn.results = #[.cell p ty, .tmp u]) (tmps : Array Value) (w : World) (g : Nat) (t : TypeId) (cs : Array Value) (fr : Nat × Nat) (d : TypeDesc)
    (hp : tmps.getD p undef = .pointer (some ⟨g, 0, none⟩)) (hg : w.heap[g]? = some (.cells cs t fr))
    (hu : P.underlying ty = some d) (hd : (match d with | .struct _ | .array _ _ => true | _ => false) = true) (hi : (P.info? ty).map (·.size) = some cs.size) :
    (results fn tmps).run P w = .ok (.tuple #[.agg cs, tmps.getD u undef]) w := by
  have hp' : tmps[p]?.getD undef = .pointer (some ⟨g, 0, none⟩) := by simpa using hp
  simp [results, h, hp', asAddr, run_loadVar_row w g t ty cs fr d hg hu hd hi]
theorem two_at {w : World} {B : Nat} {A : Option Addr} {S : Nat → Int} {n k : Nat} (h : Rd w B A (ints (rowF S (n * 2)))) (hk : k < n) : ∃ b o, A = some ⟨b, o, none⟩ ∧ w.cell? ⟨b, o + k * 2, none⟩ = some (.int .i64 (S (k * 2))) ∧ w.cell? ⟨b, o + k * 2 + 1, none⟩ = some (.int .i64 (S (k * 2 + 1))) := by
  obtain ⟨b, o, hA, _, h1⟩ := h.at_ (ints_at (rowF_get (F := S) (n := n * 2) (j := k * 2) (by omega)))
  obtain ⟨b', o', hA', _, h2⟩ := h.at_ (ints_at (rowF_get (F := S) (n := n * 2) (j := k * 2 + 1) (by omega)))
  rw [hA] at hA'
  injection hA' with e
  injection e with e1 e2
  subst e1; subst e2
  exact ⟨b, o, hA, h1, h2⟩
def tmV (L : List (List Int)) (i : Int) : Int × Int := if csE L i [] = 0 then solN (visM L L.length (tmC L)) L.length i.toNat else (0, 0)
def ecV (L : List (List Int)) (i j : Int) : Int × Int := if csE L i [j] = 0 then solN (visM L L.length (endC L j.toNat)) L.length i.toNat else (0, 0)
theorem csE_ok {L : List (List Int)} {i : Int} {os : List Int} (h : csE L i os = 0) : vdE L = 0 ∧ (0 ≤ i ∧ i < (L.length : Int)) ∧ (∀ p ∈ os, 0 ≤ p ∧ p < (L.length : Int)) ∧ sureB L L.length i.toNat = true := by
  unfold csE at h
  split at h
  · rename_i hc
    split at h
    · rename_i hs
      obtain ⟨h1, h2⟩ := ckE_ok hc
      exact ⟨h1, h2 i (by simp), fun p hp => h2 p (by simp [hp]), hs⟩
    · cases h
  · rename_i hc; exact absurd h hc
set_option maxRecDepth 8000 in
set_option maxHeartbeats 4000000 in
theorem Time_any (A : Option Addr) (rs : List Rw) (c : Nat) (hs : SzR rs) (hl : rs.length ≤ 9223372036854775807) (i : Int) (hsok : vdE (rowsL rs) = 0 → SOK (visM (rowsL rs) rs.length (tmC (rowsL rs))) rs.length) (w : World) (hr : RdR w w.heap.size A rs) :
    Calls Try.prog 34 #[.slice A rs.length c, .int .i64 i] w fun e w' => e = .returned (.tuple #[ratZ (tmV (rowsL rs) i), .int .i64 (csE (rowsL rs) i [])]) ∧ Below w.heap.size w w' := by
  obtain ⟨s, hS⟩ : ∃ s, w.heap.size = s := ⟨_, rfl⟩
  have HS := Lib.hid hS
  have b1 := Boxed.new w 22 (.slice A rs.length c)
  have hg := heap_alloc_new (w.alloc (.cells #[.slice A rs.length c] 22)) (.cells #[.int .i64 0, .int .i64 0] 29)
  have hsz : (w.alloc (.cells #[.slice A rs.length c] 22)).heap.size = s + 1 := by simp [hS]
  rw [hsz] at hg
  rw [hS] at b1
  have b1' := b1.alloc (.cells #[.int .i64 0, .int .i64 0] 29)
  have hB : Below s w ((w.alloc (.cells #[.slice A rs.length c] 22)).alloc (.cells #[.int .i64 0, .int .i64 0] 29)) := by rw [← hS]; exact ((Below.refl _ w).alloc (Nat.le_refl _) _).alloc (by simp) _
  have hzW : ((w.alloc (.cells #[.slice A rs.length c] 22)).alloc (.cells #[.int .i64 0, .int .i64 0] 29)).heap.size = s + 1 + 1 := by simp [hS]
  obtain ⟨W, hW⟩ : ∃ W, (w.alloc (.cells #[.slice A rs.length c] 22)).alloc (.cells #[.int .i64 0, .int .i64 0] 29) = W := ⟨_, rfl⟩
  rw [hW] at b1' hB hg hzW
  have hrW : RdR W W.heap.size A rs := (hr.below (by rw [hS]; exact hB) (Nat.le_refl _)).more (by omega)
  have HCs := Lib.hid (checkSure_any A rs c hs hl i none 0 [] (by simp) W.heap.size W ⟨rfl, .inl ⟨rfl, rfl⟩⟩ (Nat.le_refl _) hrW)
  have HRW := Lib.hid hrW
  have HW := Lib.hid hW
  have c1 := b1'.cell
  have HV0 := Lib.hid (show tmV (rowsL rs) i = if csE (rowsL rs) i [] = 0 then solN (visM (rowsL rs) (rowsL rs).length (tmC (rowsL rs))) (rowsL rs).length i.toNat else (0, 0) from rfl)
  rw [rows_len] at HV0
  by_cases h0 : csE (rowsL rs) i [] = 0
  · obtain ⟨hv, ⟨hi0, hi1⟩, _, _⟩ := csE_ok h0
    rw [rows_len] at hi1
    obtain ⟨hch, hn0⟩ := chn_of hv
    rw [if_pos h0] at HV0
    have HVi := Lib.hid (fun w2 (hb : Below W.heap.size W w2) => visits_one A rs c hch hn0 ⟨s, 0, none⟩ (tmC (rowsL rs)) (hsok hv) w2 (hrW.up hb) fun k hk W2 hb2 => time1_any A rs c hch k hk s W2 ((hrW.up hb).up hb2) (cell_keep (boxed_up b1' hb).cell hb2 (boxed_up b1' hb).lt))
    rw [h0] at HCs ⊢
    obtain ⟨k, hk⟩ : ∃ k : Nat, i = k := ⟨i.toNat, by omega⟩
    rw [show i.toNat = k by omega] at HV0
    have HS0 := Lib.hid (solF_0 (visM (rowsL rs) rs.length (tmC (rowsL rs))) rs.length k)
    have HS1 := Lib.hid (solF_1 (visM (rowsL rs) rs.length (tmC (rowsL rs))) rs.length k)
    unfold RatsPost at HVi
    have HB := Lib.hid hB
    have HG := Lib.hid hg
    have HB1 := Lib.hid b1'
    obtain ⟨⟨v1, v2⟩, hvv⟩ : ∃ v, solN (visM (rowsL rs) rs.length (tmC (rowsL rs))) rs.length k = v := ⟨_, rfl⟩
    rw [hvv] at HV0 HS0 HS1
    simp only at HS0 HS1
    have HV := Lib.hid (HV0.out)
    generalize solF (visM (rowsL rs) rs.length (tmC (rowsL rs))) rs.length = S at *
    generalize tmV (rowsL rs) i = TV at *
    generalize rs.length = n at *
    subst hk
    have hk1 : k < n := by omega
    clear hr hs hsok hW hB b1 b1' hrW hsz hg h0 hv hch hi0 hi1 hvv HV0
    go_enter Try.func34, Try.ntmps34
    go_wp2_with fail
    rw [HW.out]
    refine HCs.out.mono ?_
    rintro e w2 ⟨rfl, hb2⟩
    have HB2 := Lib.hid (HB.out.trans (hb2.mono (by omega)))
    have HG2 := Lib.hid ((hb2.block (s + 1) (by omega)).trans HG.out)
    have c2 := (boxed_up HB1.out hb2).cell
    have HVj := Lib.hid (HVi.out w2 hb2)
    have hz2 := hb2.size
    clear c1 hb2
    go_wp2_with fail
    refine HVj.out.mono ?_
    rintro e w3 ⟨A3, c3, rfl, hr3, hb3⟩
    obtain ⟨b, o, rfl, x0, x1⟩ := two_at hr3 hk1
    rw [HS0.out] at x0
    rw [HS1.out] at x1
    have hB3 := HB2.out.trans (hb3.mono (by omega))
    have hg3 := (hb3.block (s + 1) (by omega)).trans HG2.out
    have y0 : (0 : Int) ≤ (k : Int) := by omega
    have y1 : (k : Int) < (n : Int) := by omega
    obtain ⟨d0, f0, d1, f1, HR⟩ := put2 hg3 (.int .i64 v1) (.int .i64 v2)
    have BZ := Lib.hid (put2_below (W := w3) (g := s + 1) (.int .i64 v1) (.int .i64 v2) hB3 (by omega) (by have := hb3.size; omega))
    clear hg3 hB3 hr3 hb3
    go_wp2_with fail
    (try simp only [Exit.inBlock, Exit.then])
    refine bodyPost_ret (v := .tuple #[.agg #[.int .i64 v1, .int .i64 v2], .int .i64 0]) (results_row_tmp (p := 4) (u := 5) rfl _ _ (s + 1) 29 _ _ _ rfl HR.out Try.underlying29 rfl sizeRat) rfl ⟨?_, by rw [HS.out]; exact BZ.out⟩
    rw [HV.out]; rfl
  · have e1 : (csE (rowsL rs) i [] != 0) = true := by simpa using h0
    rw [if_neg h0] at HV0
    have HV := Lib.hid HV0.out
    generalize tmV (rowsL rs) i = TV at *
    generalize csE (rowsL rs) i [] = E at *
    have HB := Lib.hid hB
    have HG := Lib.hid hg
    generalize rs.length = n at *
    clear hr hs hsok hW hB b1 b1' hrW hsz hg h0 HV0
    go_enter Try.func34, Try.ntmps34
    go_wp2_with fail
    rw [HW.out]
    refine HCs.out.mono ?_
    rintro e w2 ⟨rfl, hb2⟩
    have hB2 := HB.out.trans (hb2.mono (by omega))
    have hg2 := (hb2.block (s + 1) (by omega)).trans HG.out
    have hz2 := hb2.size
    clear c1 hb2
    obtain ⟨d0, f0, d1, f1, HR⟩ := put2 hg2 (.int .i64 0) (.int .i64 0)
    have BZ := Lib.hid (put2_below (W := w2) (g := s + 1) (.int .i64 0) (.int .i64 0) hB2 (by omega) (by have := (hB2).size; omega))
    clear hg2
    go_wp2_with fail
    (try simp only [Exit.inBlock, Exit.then])
    refine bodyPost_ret (v := .tuple #[.agg #[.int .i64 0, .int .i64 0], .int .i64 E]) (results_row_tmp (p := 4) (u := 5) rfl _ _ (s + 1) 29 _ _ _ rfl HR.out Try.underlying29 rfl sizeRat) rfl ⟨?_, by rw [HS.out]; exact BZ.out⟩
    rw [HV.out]; rfl
set_option maxRecDepth 8000 in
set_option maxHeartbeats 4000000 in
theorem EndChance_any (A : Option Addr) (rs : List Rw) (c : Nat) (hs : SzR rs) (hl : rs.length ≤ 9223372036854775807) (i j : Int) (hsok : vdE (rowsL rs) = 0 → SOK (visM (rowsL rs) rs.length (endC (rowsL rs) j.toNat)) rs.length) (w : World) (hr : RdR w w.heap.size A rs) :
    Calls Try.prog 32 #[.slice A rs.length c, .int .i64 i, .int .i64 j] w fun e w' => e = .returned (.tuple #[ratZ (ecV (rowsL rs) i j), .int .i64 (csE (rowsL rs) i [j])]) ∧ Below w.heap.size w w' := by
  obtain ⟨s, hS⟩ : ∃ s, w.heap.size = s := ⟨_, rfl⟩
  have HS := Lib.hid hS
  have hg0 := heap_alloc_new w (.cells #[.int .i64 0, .int .i64 0] 29)
  have hsz : (w.alloc (.cells #[.int .i64 0, .int .i64 0] 29)).heap.size = s + 1 := by simp [hS]
  rw [hS] at hg0
  have hg := blk_alloc' (o := .cells #[.int .i64 j] 3) hg0
  have hB : Below s w ((w.alloc (.cells #[.int .i64 0, .int .i64 0] 29)).alloc (.cells #[.int .i64 j] 3)) := by rw [← hS]; exact ((Below.refl _ w).alloc (Nat.le_refl _) _).alloc (by simp) _
  have hzW : ((w.alloc (.cells #[.int .i64 0, .int .i64 0] 29)).alloc (.cells #[.int .i64 j] 3)).heap.size = s + 1 + 1 := by simp [hS]
  have how := World.ownsRow_lit (base := s + 1) (e := 3) (size := 1) (w.alloc (.cells #[.int .i64 0, .int .i64 0] 29)) #[.int .i64 j] 1 (by omega) (by simp [maxLen]) (by simp)
  rw [hsz] at how
  obtain ⟨W, hW⟩ : ∃ W, (w.alloc (.cells #[.int .i64 0, .int .i64 0] 29)).alloc (.cells #[.int .i64 j] 3) = W := ⟨_, rfl⟩
  rw [hW] at hB hg hzW how
  have hrW1 : RdR W (s + 1) A rs := (hr.below (by rw [hS]; exact hB) (Nat.le_refl _)).more (by omega)
  have hrW : RdR W W.heap.size A rs := hrW1.more (by omega)
  have HCs := Lib.hid (checkSure_any A rs c hs hl i (some ⟨s + 1, 0, none⟩) 1 [j] (by simp) (s + 1) W (by simpa [ints] using how) (by omega) hrW1)
  have HW := Lib.hid hW
  have HV0 := Lib.hid (show ecV (rowsL rs) i j = if csE (rowsL rs) i [j] = 0 then solN (visM (rowsL rs) (rowsL rs).length (endC (rowsL rs) j.toNat)) (rowsL rs).length i.toNat else (0, 0) from rfl)
  rw [rows_len] at HV0
  have HB := Lib.hid hB
  have HG := Lib.hid hg
  by_cases h0 : csE (rowsL rs) i [j] = 0
  · obtain ⟨hv, ⟨hi0, hi1⟩, hjj, _⟩ := csE_ok h0
    have hj01 := hjj j (by simp)
    rw [rows_len] at hi1 hj01
    obtain ⟨hch, hn0⟩ := chn_of hv
    rw [if_pos h0] at HV0
    obtain ⟨q, hq⟩ : ∃ q : Nat, j = q := ⟨j.toNat, by omega⟩
    rw [show j.toNat = q by omega] at HV0
    have hsk := hsok hv
    rw [show j.toNat = q by omega] at hsk
    have HEn := Lib.hid (fun w2 (hb : Below (s + 1) W w2) => endChances_any A rs c q hch hn0 hsk w2 ((hrW1.below hb (Nat.le_refl _)).more (by have := hb.size; omega)))
    rw [h0] at HCs ⊢
    obtain ⟨k, hk⟩ : ∃ k : Nat, i = k := ⟨i.toNat, by omega⟩
    rw [show i.toNat = k by omega] at HV0
    have HS0 := Lib.hid (solF_0 (visM (rowsL rs) rs.length (endC (rowsL rs) q)) rs.length k)
    have HS1 := Lib.hid (solF_1 (visM (rowsL rs) rs.length (endC (rowsL rs) q)) rs.length k)
    unfold RatsPost at HEn
    obtain ⟨⟨v1, v2⟩, hvv⟩ : ∃ v, solN (visM (rowsL rs) rs.length (endC (rowsL rs) q)) rs.length k = v := ⟨_, rfl⟩
    rw [hvv] at HV0 HS0 HS1
    simp only at HS0 HS1
    have HV := Lib.hid (HV0.out)
    generalize solF (visM (rowsL rs) rs.length (endC (rowsL rs) q)) rs.length = S at *
    generalize ecV (rowsL rs) i j = TV at *
    generalize rs.length = n at *
    subst hk hq
    have hk1 : k < n := by omega
    clear hr hs hsok hsk hW hB hrW hrW1 hsz hg hg0 how h0 hv hch hi0 hi1 hvv HV0 hjj hj01
    go_enter Try.func32, Try.ntmps32
    go_wp2_with fail
    rw [HW.out]
    refine HCs.out.mono ?_
    rintro e w2 ⟨rfl, hb2⟩
    have HB2 := Lib.hid (HB.out.trans (hb2.mono (by omega)))
    have HG2 := Lib.hid ((hb2.block s (by omega)).trans HG.out)
    have HVj := Lib.hid (HEn.out w2 hb2)
    have hz2 := hb2.size
    clear hb2
    go_wp2_with fail
    refine HVj.out.mono ?_
    rintro e w3 ⟨A3, c3, rfl, hr3, hb3⟩
    obtain ⟨b, o, rfl, x0, x1⟩ := two_at hr3 hk1
    rw [HS0.out] at x0
    rw [HS1.out] at x1
    have hB3 := HB2.out.trans (hb3.mono (by omega))
    have hg3 := (hb3.block s (by omega)).trans HG2.out
    have y0 : (0 : Int) ≤ (k : Int) := by omega
    have y1 : (k : Int) < (n : Int) := by omega
    obtain ⟨d0, f0, d1, f1, HR⟩ := put2 hg3 (.int .i64 v1) (.int .i64 v2)
    have BZ := Lib.hid (put2_below (W := w3) (g := s) (.int .i64 v1) (.int .i64 v2) hB3 (by omega) (by have := hb3.size; omega))
    clear hg3 hB3 hr3 hb3
    go_wp2_with fail
    (try simp only [Exit.inBlock, Exit.then])
    refine bodyPost_ret (v := .tuple #[.agg #[.int .i64 v1, .int .i64 v2], .int .i64 0]) (results_row_tmp (p := 6) (u := 7) rfl _ _ s 29 _ _ _ rfl HR.out Try.underlying29 rfl sizeRat) rfl ⟨?_, by rw [HS.out]; exact BZ.out⟩
    rw [HV.out]; rfl
  · have e1 : (csE (rowsL rs) i [j] != 0) = true := by simpa using h0
    rw [if_neg h0] at HV0
    have HV := Lib.hid HV0.out
    generalize ecV (rowsL rs) i j = TV at *
    generalize csE (rowsL rs) i [j] = E at *
    generalize rs.length = n at *
    clear hr hs hsok hW hB hrW hrW1 hsz hg hg0 how h0 HV0
    go_enter Try.func32, Try.ntmps32
    go_wp2_with fail
    rw [HW.out]
    refine HCs.out.mono ?_
    rintro e w2 ⟨rfl, hb2⟩
    have hB2 := HB.out.trans (hb2.mono (by omega))
    have hg2 := (hb2.block s (by omega)).trans HG.out
    have hz2 := hb2.size
    clear hb2
    obtain ⟨d0, f0, d1, f1, HR⟩ := put2 hg2 (.int .i64 0) (.int .i64 0)
    have BZ := Lib.hid (put2_below (W := w2) (g := s) (.int .i64 0) (.int .i64 0) hB2 (by omega) (by have := (hB2).size; omega))
    clear hg2
    go_wp2_with fail
    (try simp only [Exit.inBlock, Exit.then])
    refine bodyPost_ret (v := .tuple #[.agg #[.int .i64 0, .int .i64 0], .int .i64 E]) (results_row_tmp (p := 6) (u := 7) rfl _ _ (s) 29 _ _ _ rfl HR.out Try.underlying29 rfl sizeRat) rfl ⟨?_, by rw [HS.out]; exact BZ.out⟩
    rw [HV.out]; rfl
end Go.Proofs.Ytegehfcnclpdeaa

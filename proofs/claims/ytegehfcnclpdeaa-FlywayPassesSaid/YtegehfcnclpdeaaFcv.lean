/-
  The chance after some steps: the walk of chain.chance. Condition: a valid chain that can be read, at most three steps.
-/
import Derived.Test.YtegehfcnclpdeaaFch
namespace Go.Proofs.Ytegehfcnclpdeaa
open Go.RowKit Go.Shelf
set_option linter.unusedVariables false
attribute [local go_sem] Oper.semAt_some

theorem keepsOthers_below {W W' : World} (h : Below W.heap.size W W') : KeepsOthers W W' := ⟨h.size, fun k o hk ho => (h.block k (Array.getElem?_eq_some_iff.1 hk).1).trans hk⟩
def CnI (s n c : Nat) (A : Option Addr) (j : Nat) (k : Int) (T : Int × Int) (W : World) : Prop :=
  Boxed W s 67 (.slice A n c) ∧ Boxed W (s + 1) 3 (.int .i64 (j : Int)) ∧ Boxed W (s + 1 + 1) 3 (.int .i64 k) ∧ W.heap[s + 1 + 1 + 1]? = some (.cells #[.int .i64 0, .int .i64 0] 29 (0, 0)) ∧ W.heap[s + 1 + 1 + 1 + 1]? = some (.cells #[.int .i64 T.1, .int .i64 T.2] 29 (0, 0))
theorem cnI_own {α : Type} (s n c : Nat) (A : Option Addr) (j : Nat) (k : Int) (f : List α → Int × Int) : Own (fun (pre : List α) W => CnI s n c A j k (f pre) W) := by
  rintro pre X Y row ⟨h1, h2, h3, h4, h5⟩ hg hr
  exact ⟨boxed_kept h1 hg hr, boxed_kept h2 hg hr, boxed_kept h3 hg hr, blk_kept h4 hg hr, blk_kept h5 hg hr⟩
theorem CnI.up {s n c : Nat} {A : Option Addr} {j : Nat} {k : Int} {T : Int × Int} {W W' : World} (h : CnI s n c A j k T W) (hb : Below W.heap.size W W') : CnI s n c A j k T W' :=
  ⟨boxed_up h.1 hb, boxed_up h.2.1 hb, boxed_up h.2.2.1 hb, (hb.block _ (lt_of_block' h.2.2.2.1)).trans h.2.2.2.1, (hb.block _ (lt_of_block' h.2.2.2.2)).trans h.2.2.2.2⟩
theorem cn_start (w : World) (s n c : Nat) (A : Option Addr) (j : Nat) (k : Int) (hs : w.heap.size = s) : ∃ W, (((w.alloc (.cells #[.slice A n c] 67)).alloc (.cells #[.int .i64 (j : Int)] 3)).alloc (.cells #[.int .i64 k] 3)).alloc (.cells #[.int .i64 0, .int .i64 0] 29) = W ∧
    W.heap.size = s + 1 + 1 + 1 + 1 ∧ Below s w W ∧ W.cell? ⟨s + 1 + 1, 0, none⟩ = some (.int .i64 k) ∧ W.cell? ⟨s + 1, 0, none⟩ = some (.int .i64 (j : Int)) ∧ W.heap[s + 1 + 1 + 1]? = some (.cells #[.int .i64 0, .int .i64 0] 29 (0, 0)) ∧ CnI s n c A j k (0, 1) (W.alloc (.cells #[.int .i64 0, .int .i64 1] 29)) := by
  have b1 := Boxed.new w 67 (.slice A n c)
  have b2 := Boxed.new (w.alloc (.cells #[.slice A n c] 67)) 3 (.int .i64 (j : Int))
  have b3 := Boxed.new ((w.alloc (.cells #[.slice A n c] 67)).alloc (.cells #[.int .i64 (j : Int)] 3)) 3 (.int .i64 k)
  have b4 := heap_alloc_new (((w.alloc (.cells #[.slice A n c] 67)).alloc (.cells #[.int .i64 (j : Int)] 3)).alloc (.cells #[.int .i64 k] 3)) (.cells #[.int .i64 0, .int .i64 0] 29)
  have hb : Below s w ((((w.alloc (.cells #[.slice A n c] 67)).alloc (.cells #[.int .i64 (j : Int)] 3)).alloc (.cells #[.int .i64 k] 3)).alloc (.cells #[.int .i64 0, .int .i64 0] 29)) := by
    exact ((((Below.refl s w).alloc (by omega) _).alloc (by simp; omega) _).alloc (by simp; omega) _).alloc (by simp; omega) _
  simp only [World.size_alloc, hs] at b1 b2 b3 b4
  have c1 := ((b1.alloc (.cells #[.int .i64 (j : Int)] 3)).alloc (.cells #[.int .i64 k] 3)).alloc (.cells #[.int .i64 0, .int .i64 0] 29)
  have c2 := (b2.alloc (.cells #[.int .i64 k] 3)).alloc (.cells #[.int .i64 0, .int .i64 0] 29)
  have c3 := b3.alloc (.cells #[.int .i64 0, .int .i64 0] 29)
  obtain ⟨W, hW⟩ : ∃ W, (((w.alloc (.cells #[.slice A n c] 67)).alloc (.cells #[.int .i64 (j : Int)] 3)).alloc (.cells #[.int .i64 k] 3)).alloc (.cells #[.int .i64 0, .int .i64 0] 29) = W := ⟨_, rfl⟩
  have hz : W.heap.size = s + 1 + 1 + 1 + 1 := by rw [← hW]; simp [hs]
  rw [hW] at c1 c2 c3 b4 hb
  have b5 := heap_alloc_new W (.cells #[.int .i64 0, .int .i64 1] 29)
  rw [hz] at b5
  exact ⟨W, hW, hz, hb, c3.cell, c2.cell, b4, c1.alloc _, c2.alloc _, c3.alloc _, blk_alloc' b4, b5⟩
set_option maxRecDepth 100000 in
set_option maxHeartbeats 8000000 in
theorem chance_any (A : Option Addr) (rs : List Rw) (c : Nat) (h5 : rs.length ≤ 5) (hlen : ∀ r ∈ rs, r.l.length = rs.length) (hok : Okl (rowsL rs) rs.length) (j : Nat) : ∀ k : Nat, k ≤ 3 → ∀ i, i < rs.length → ∀ w : World, RdR w w.heap.size A rs →
    Calls Try.prog 56 #[.slice A rs.length c, .int .i64 (i : Int), .int .i64 (j : Int), .int .i64 (k : Int)] w fun e w' => e = .returned (ratZ (chF (rowsL rs) j k i)) ∧ Below w.heap.size w w' := by
  intro k
  induction k with
  | zero =>
    intro _ i hi w hr
    obtain ⟨s, hs⟩ : ∃ s, w.heap.size = s := ⟨_, rfl⟩
    have HS := Lib.hid hs
    obtain ⟨w4, hw4, hz4, hb4, l7, l6, hX8, hI⟩ := cn_start w s rs.length c A j 0 hs
    have HOne := Lib.hid (fun w => oneIf_any ((i : Int) == (j : Int)) w)
    have HE := Lib.hid (show ratZ (chF (rowsL rs) j 0 i) = .agg #[.int .i64 (if ((i : Int) == (j : Int)) = true then 1 else 0), .int .i64 1] by
      show ratZ (if i = j then 1 else 0, 1) = _
      by_cases e : i = j
      · rw [if_pos e, if_pos (by simp [e])]; rfl
      · rw [if_neg e, if_neg (by simp; omega)]; rfl)
    rw [HE.out]
    generalize (if ((i : Int) == (j : Int)) = true then (1 : Int) else 0) = v at *
    have HW4 := Lib.hid hw4
    have HB4 := Lib.hid hb4
    obtain ⟨d0, f0, d1, f1, HR7⟩ := put2 hX8 (.int .i64 v) (.int .i64 1)
    have BZ := Lib.hid (put2_below (W := w4) (g := s + 1 + 1 + 1) (.int .i64 v) (.int .i64 1) HB4.out (by omega) (by omega))
    have hz : ((0 : Nat) : Int) = 0 := rfl
    rw [hz]
    clear hw4 hX8 hI hb4 hlen hok hr HE hz
    go_enter Try.func56, Try.ntmps56
    go_wp2_with fail
    rw [HW4.out]
    refine (HOne.out w4).mono ?_
    rintro e w' ⟨rfl, rfl⟩
    go_wp2_with fail
    (try simp only [Exit.inBlock, Exit.then])
    exact bodyPost_ret (v := .agg #[.int .i64 v, .int .i64 1]) (results_cell_row rfl _ _ (s + 1 + 1 + 1) 29 _ _ _ rfl HR7.out Try.underlying29 rfl sizeRat) rfl ⟨rfl, by rw [HS.out]; exact BZ.out⟩
  | succ k ih =>
    intro hk i hi w hr
    obtain ⟨s, hs⟩ : ∃ s, w.heap.size = s := ⟨_, rfl⟩
    obtain ⟨⟨A', c', l⟩, hrow⟩ : ∃ r, rs[i]? = some r := ⟨_, List.getElem?_eq_getElem hi⟩
    have hll : l.length = rs.length := hlen _ (List.mem_of_getElem? hrow)
    have hL := row_lsum hrow
    have hCh := ch_ok hok j k (by omega)
    obtain ⟨hokl, _, hsp⟩ := hok i hi
    rw [hL] at hokl hsp
    have HCh := Lib.hid hCh
    have IH := Lib.hid (fun i hi w hr => ih (by omega) i hi w hr)
    have HR := Lib.hid hr
    have HS := Lib.hid hs
    have HSum := Lib.hid (fun w h => sum_any A rs c i A' c' l hokl w h hrow)
    have HSt := Lib.hid (fun B0 B1 n₀ w h1 h2 h3 h4 h5 h6 => pas_stops 2 (by decide) B0 B1 n₀ A rs c i A' c' l (by omega) w h1 h2 h3 h4 h5 h6 hrow)
    have HE := Lib.hid (show chF (rowsL rs) j (k + 1) i = frZ (totF (chF (rowsL rs) j k) (pasU l l.length)).1 ((totF (chF (rowsL rs) j k) (pasU l l.length)).2 * lsum l) by rw [← hL]; rfl)
    obtain ⟨F, hF⟩ : ∃ F, chF (rowsL rs) j k = F := ⟨_, rfl⟩
    rw [hF] at IH HE HCh
    obtain ⟨⟨R1, R2⟩, hR⟩ : ∃ R, chF (rowsL rs) j (k + 1) i = R := ⟨_, rfl⟩
    rw [hR] at HE ⊢
    have hZ : ratZ (R1, R2) = .agg #[.int .i64 R1, .int .i64 R2] := rfl
    rw [hZ]
    clear hZ
    clear hr hL hCh ih hF hR hok hrow hlen
    obtain ⟨n, hn⟩ : ∃ n, rs.length = n := ⟨_, rfl⟩
    have HN := Lib.hid hn
    rw [hn] at h5 hll hi IH HSum HSt HCh ⊢
    clear hn
    refine (callsIn_wide (n := 3)).1 ?_
    refine callsIn_of_wp_marks Try.func56 rfl trivial (Code.wpIn_mono np_le ?_) rfl
    simp only [Try.ntmps56, List.size_toArray, List.length_cons, List.length_nil, Nat.reduceAdd, Nat.reduceSub, Array.replicate_succ, Array.replicate_zero, List.push_toArray, List.append_toArray, List.nil_append, List.cons_append]
    obtain ⟨w4, hw4, hz4, hb4, l7, l6, hX8, hI⟩ := cn_start w s n c A j ((k : Int) + 1) HS.out
    have HW4 := Lib.hid hw4
    clear hw4 l6 hX8
    gi_wp2
    rw [HW4.out]
    obtain ⟨w5, hw5⟩ : ∃ w5, w4.alloc (.cells #[.int .i64 0, .int .i64 1] 29) = w5 := ⟨_, rfl⟩
    have hz5 : w5.heap.size = s + 1 + 1 + 1 + 1 + 1 := by rw [← hw5]; simp [hz4]
    have hb5 : Below s w w5 := by rw [← hw5]; exact hb4.alloc (by omega) _
    rw [hw5] at hI ⊢
    have hp1 := Boxed.new w5 67 (.slice A n c)
    have hp2 := Boxed.new (w5.alloc (.cells #[.slice A n c] 67)) 3 (.int .i64 (i : Int))
    simp only [World.size_alloc, hz5] at hp1 hp2
    have hp1' := hp1.alloc (.cells #[.int .i64 (i : Int)] 3)
    have B5 : Below w5.heap.size w5 ((w5.alloc (.cells #[.slice A n c] 67)).alloc (.cells #[.int .i64 (i : Int)] 3)) := ((Below.refl _ w5).alloc (Nat.le_refl _) _).alloc (by simp) _
    have hz6 : ((w5.alloc (.cells #[.slice A n c] 67)).alloc (.cells #[.int .i64 (i : Int)] 3)).heap.size = s + 1 + 1 + 1 + 1 + 1 + 1 + 1 := by simp [hz5]
    refine ⟨trivial, ?_⟩
    gi_at_call 91
    refine (callsIn_wide.2 (passages_any _ _ _ _ _)).mono ?_
    rintro e w' ⟨rfl, rfl⟩
    rw [hz5]
    gi_wp2
    obtain ⟨W5, hW5⟩ : ∃ W5, (w5.alloc (.cells #[.slice A n c] 67)).alloc (.cells #[.int .i64 (i : Int)] 3) = W5 := ⟨_, rfl⟩
    rw [hW5] at hp2 hp1' B5 hz6 ⊢
    have GI := hI.up B5
    have GB := hb5.trans (B5.mono (by omega))
    have hHS := HSt.out (s + 1 + 1 + 1 + 1 + 1) (s + 1 + 1 + 1 + 1 + 1 + 1) s W5 (by omega) (by omega) (by omega) hp1'.cell hp2.cell (by have := HR.out.below GB (by rw [HS.out]; exact Nat.le_refl _); rwa [HS.out] at this)
    clear hp1 hp2 hp1' B5 hW5 hI hb5 hw5 hb4 l7 HW4 hz4 hz5
    refine wpIn_rangeFunc_ownF (n := 3) rfl (by decide) (gf := 104) (lb := #[.pointer (some ⟨s + 1 + 1 + 1 + 1 + 1, 0, none⟩), .pointer (some ⟨s + 1 + 1 + 1 + 1 + 1 + 1, 0, none⟩)]) rfl trivial (enters_of Try.func104 (by kernel_rfl) rfl)
      hHS belowK_t (belowK_b (by omega)) (Below.refl _ _) (fun _ => rfl)
      (fun pre W => CnI s n c A j ((k : Int) + 1) (totF F (pre.map fun x => x.1)) W ∧ Below s w W)
      (fun _ _ _ => False)
      (OwnFrom.and (Own.from (cnI_own _ _ _ _ _ _ _) _) (ownFrom_below (by rw [HS.out]; exact Nat.le_refl _) (by omega)))
      (fun _ _ _ _ _ hs _ _ => hs)
      ⟨GI, GB⟩
      ?a₁ ?assign ?body ?done ?stop
    case assign =>
      intro l x W K hK
      gi_wp2
      exact hK
    case body =>
      rintro ll pre x W ⟨⟨k1, k2, k3, k4, k5⟩, hB⟩ hlen
      have hx := hokl.pas x
      have c1 := k1.cell
      have c2 := k2.cell
      have c3 := k3.cell
      have hp := psum_le hokl pre
      have hFr := tot_ok (show k ≤ 3 by omega) hokl (fun q hq => HCh.out q (by omega)) pre (by omega)
      obtain ⟨hPl, _⟩ := plu_ok (show k ≤ 3 by omega) hFr (HCh.out x.1.1 (by omega)) ⟨hp.1, by omega⟩ hx.2
      have HPl := Lib.hid hPl
      have HTn := Lib.hid (show totF F ((pre ++ [x]).map fun x => x.1) = pluF (totF F (pre.map fun x => x.1)) (mulW (F x.1.1) x.1.2) by rw [List.map_append, List.map_cons, List.map_nil, totF_snoc])
      have hq := hPl.h2
      have hr1 := (HCh.out x.1.1 (by omega))
      have hr2 := hr1.hi
      have hr3 := Int.le_of_dvd (pow_le (show k ≤ 3 by omega)).1 hr1.dvd
      have hr4 := (pow_le (show k ≤ 3 by omega)).2
      have hr5 := hr1.lo
      have hC := IH.out x.1.1 (by omega) W ((HR.out.below (by rw [HS.out]; exact hB) (Nat.le_refl _)).more (by have := hB.size; omega))
      obtain ⟨⟨r1, r2⟩, hr⟩ : ∃ r, F x.1.1 = r := ⟨_, rfl⟩
      obtain ⟨⟨t1, t2⟩, ht⟩ : ∃ t, totF F (pre.map fun x => x.1) = t := ⟨_, rfl⟩
      rw [hr] at HPl HTn hC hr2 hr3 hr5
      rw [ht] at HPl HTn k5
      have HC := Lib.hid hC
      dsimp only at hr2 hr3 hr5
      have hmw : -4000000000000000000 ≤ r1 * x.1.2 ∧ r1 * x.1.2 ≤ 4000000000000000000 := by
        have h1 := Int.mul_le_mul (show r1 ≤ 46800000000000000 by omega) hx.2.2 (by omega) (by decide)
        have h2 := Int.mul_nonneg hr5 (show 0 ≤ x.1.2 by omega)
        omega
      have q1 : IntKind.i64.wrap (r1 * x.1.2) = r1 * x.1.2 := wrapI_mid hmw
      have q2 : wrap64 (r1 * x.1.2) = r1 * x.1.2 := wrap_mid hmw
      have HPC := Lib.hid (fun w => plus_any (t1, t2) (mulW (r1, r2) x.1.2) HPl.out w)
      obtain ⟨⟨p1, p2⟩, hp0⟩ : ∃ p, pluF (t1, t2) (mulW (r1, r2) x.1.2) = p := ⟨_, rfl⟩
      rw [hp0] at HPC HTn
      unfold ratZ at HC HPC
      unfold mulW at HPC
      dsimp only at HPC
      have K := Lib.hid (show CnI s n c A j ((k : Int) + 1) (t1, t2) W from ⟨k1, k2, k3, k4, k5⟩)
      have HB := Lib.hid hB
      have hkk : (k : Int) ≤ 2 := by omega
      have hWs : s + 1 + 1 + 1 + 1 < W.heap.size := lt_of_block' k5
      clear hFr hPl hq hr1 hr2 hr3 hr4 hr5 hmw hr ht hC hp0 HPl hp k1 k2 k3 k4 k5 hB
      gi_wp2_with (refine ⟨trivial, ?_⟩; gi_at_call 56; refine (CallsIn.inRound ll (callsIn_wide.2 HC.out)).mono ?_; rintro e W2 ⟨rfl, hb2⟩; have K2 := Lib.hid (K.out.up hb2); have k5 := blk_alloc' (o := .cells #[.int .i64 (r1 * x.1.2), .int .i64 r2] 29) K2.out.2.2.2.2; have c8 := (blk_cell (j := 0) k5).trans (show _ = some (.int .i64 t1) from rfl); have c9 := (blk_cell (j := 1) k5).trans (show _ = some (.int .i64 t2) from rfl); have B2 := Lib.hid hb2; clear hb2 k5)
      have hW2s := B2.out.size
      have B3 := Lib.hid (B2.out.alloc hW2s (.cells #[.int .i64 (r1 * x.1.2), .int .i64 r2] 29))
      refine ⟨trivial, ?_⟩
      gi_at_call 92
      refine (CallsIn.inRound ll (callsIn_wide.2 (HPC.out _))).mono ?_
      rintro e W7 ⟨rfl, hb7⟩
      clear c8 c9
      have B7 := Lib.hid (B3.out.trans (hb7.mono (by simp; omega)))
      have K7 := Lib.hid (K.out.up B7.out)
      obtain ⟨d0, f0, d1, f1, HR7⟩ := put2 K7.out.2.2.2.2 (.int .i64 p1) (.int .i64 p2)
      have BZ := Lib.hid (put2_below (W := W7) (g := s + 1 + 1 + 1 + 1) (.int .i64 p1) (.int .i64 p2) (B7.out.mono (show s ≤ W.heap.size by omega)) (by omega) (by have := B7.out.size; omega))
      have HN1 : CnI s n c A j ((k : Int) + 1) (p1, p2) ((W7.setCell ⟨s + 1 + 1 + 1 + 1, 0, none⟩ (.int .i64 p1)).setCell ⟨s + 1 + 1 + 1 + 1, 1, none⟩ (.int .i64 p2)) := by
        have k := put2_below (B := s + 1 + 1 + 1 + 1) (w := W7) (W := W7) (g := s + 1 + 1 + 1 + 1) (.int .i64 p1) (.int .i64 p2) (Below.refl _ _) (Nat.le_refl _) (by have := B7.out.size; omega)
        exact ⟨(k.block _ (by omega)).trans K7.out.1, (k.block _ (by omega)).trans K7.out.2.1, (k.block _ (by omega)).trans K7.out.2.2.1, (k.block _ (by omega)).trans K7.out.2.2.2.1, HR7.out⟩
      have HN2 := Lib.hid HN1
      clear HN1 hb7
      gi_wp2
      exact ⟨((keepsOthers_below B7.out).trans (KeepsOthers.setCell _ _ _)).trans (KeepsOthers.setCell _ _ _), BZ.out, by rw [HTn.out]; exact HN2.out, HB.out.trans BZ.out⟩
    case done =>
      rintro D ys W hD hys ⟨hI, hB⟩ hK
      rw [show (ys.map fun x => x.1) = pasU l l.length from hys] at hI
      have hFr : Frk k (lsum l) (totF F (pasU l l.length)) := by
        obtain ⟨zs, hzs, hzl⟩ := pasU_lift l l.length
        have := tot_ok (show k ≤ 3 by omega) hokl (fun q hq => HCh.out q (by omega)) zs (by omega)
        rwa [psum_all (fun d hd => (hokl.2 d hd).1) hzs, show (zs.map fun x => x.1) = pasU l l.length from hzs] at this
      obtain ⟨⟨t1, t2⟩, ht⟩ : ∃ t, totF F (pasU l l.length) = t := ⟨_, rfl⟩
      have HE2 := HE
      rw [ht] at hI hFr HE2
      obtain ⟨f1, f2, f3, f4⟩ := hFr
      dsimp only at f1 f2 f3 f4 HE2 hI
      have hls := lsum_le hokl
      have f5 := Int.le_of_dvd (pow_le (show k ≤ 3 by omega)).1 f2
      have f6 := (pow_le (show k ≤ 3 by omega)).2
      have hm : 0 < t2 * lsum l ∧ t2 * lsum l ≤ 46800000000000000 * 15 := ⟨Int.mul_pos f1 hsp, Int.mul_le_mul (by omega) hls.2 hls.1 (by decide)⟩
      have HFr := Lib.hid (fun w => fraction_any t1 (t2 * lsum l) (by unfold Mid; omega) (by unfold Mid; omega) (by omega) w)
      rw [← HE2.out] at HFr
      have q1 : IntKind.i64.wrap (t2 * lsum l) = t2 * lsum l := wrapI_mid (by unfold Mid; omega)
      have q2 : wrap64 (t2 * lsum l) = t2 * lsum l := wrap_mid (by unfold Mid; omega)
      unfold ratZ at HFr
      dsimp only at HFr
      have hRW : RdR W W.heap.size A rs := (HR.out.below (by rw [HS.out]; exact hB) (Nat.le_refl _)).more (by have := hB.size; omega)
      have HSm := Lib.hid (HSum.out W.drew hRW)
      have hmx : Try.prog.follows .mixedOrders = true := by kernel_rfl
      have KI := Lib.hid hI
      have HB := Lib.hid hB
      have HK := Lib.hid hK
      have c1 := hI.1.cell
      have c8 := (blk_cell (j := 0) hI.2.2.2.2).trans (show _ = some (.int .i64 t1) from rfl)
      have c9 := (blk_cell (j := 1) hI.2.2.2.2).trans (show _ = some (.int .i64 t2) from rfl)
      have hWs : s + 1 + 1 + 1 + 1 < W.heap.size := lt_of_block' hI.2.2.2.2
      have hDW := lt_of_block' hK
      clear f1 f2 f3 f4 f5 f6 hls hm ht hRW hI hB hK hys HE2
      gi_wp2
      gi_region_with_o (first
        | (gi_at_call 94; refine (callsIn_wide.2 HSm.out).mono ?_; rintro e w6 ⟨rfl, hb6⟩; have K6 := Lib.hid ((show CnI s n c A j ((k : Int) + 1) (t1, t2) W.drew from KI.out).up hb6); have x1 := K6.out.1.cell; have x8 := (blk_cell (j := 0) K6.out.2.2.2.2).trans (show _ = some (.int .i64 t1) from rfl); have x9 := (blk_cell (j := 1) K6.out.2.2.2.2).trans (show _ = some (.int .i64 t2) from rfl); have B6 := Lib.hid ((Below.refl W.heap.size W).drew.trans hb6); clear hb6)
        | (refine ⟨trivial, ?_⟩; gi_at_call 94; refine (callsIn_wide.2 HSm.out).mono ?_; rintro e w6 ⟨rfl, hb6⟩; have K6 := Lib.hid ((show CnI s n c A j ((k : Int) + 1) (t1, t2) W.drew from KI.out).up hb6); have x1 := K6.out.1.cell; have x8 := (blk_cell (j := 0) K6.out.2.2.2.2).trans (show _ = some (.int .i64 t1) from rfl); have x9 := (blk_cell (j := 1) K6.out.2.2.2.2).trans (show _ = some (.int .i64 t2) from rfl); have B6 := Lib.hid ((Below.refl W.heap.size W).drew.trans hb6); clear hb6)
        | (gi_at_call 93; refine (callsIn_wide.2 (HFr.out w6)).mono ?_; rintro e w7 ⟨rfl, hb7⟩; have B7 := Lib.hid (B6.out.trans (hb7.mono B6.out.size)); have K7 := Lib.hid (K6.out.up hb7); obtain ⟨d0, f0, d1, f1, HR7⟩ := put2 K7.out.2.2.2.1 (.int .i64 R1) (.int .i64 R2); clear hb7)
        | (refine ⟨trivial, ?_⟩; gi_at_call 93; refine (callsIn_wide.2 (HFr.out w6)).mono ?_; rintro e w7 ⟨rfl, hb7⟩; have B7 := Lib.hid (B6.out.trans (hb7.mono B6.out.size)); have K7 := Lib.hid (K6.out.up hb7); obtain ⟨d0, f0, d1, f1, HR7⟩ := put2 K7.out.2.2.2.1 (.int .i64 R1) (.int .i64 R2); clear hb7))
      all_goals (
        have YB := put2_below (W := w7) (g := s + 1 + 1 + 1) (.int .i64 R1) (.int .i64 R2) (HB.out.trans (B7.out.mono (show s ≤ W.heap.size by omega))) (by omega) (by have := B7.out.size; omega)
        have YK := (Below.heap_setCell (w7.setCell ⟨s + 1 + 1 + 1, 0, none⟩ (.int .i64 R1)) ⟨s + 1 + 1 + 1, 1, none⟩ (.int .i64 R2) D (by show D ≠ s + 1 + 1 + 1; omega)).trans ((Below.heap_setCell w7 ⟨s + 1 + 1 + 1, 0, none⟩ (.int .i64 R1) D (by show D ≠ s + 1 + 1 + 1; omega)).trans ((B7.out.block D hDW).trans HK.out))
        gi_wp2
        show LeavesInM _ _ _ _ _ _ _ _ _
        refine ⟨by simp, .inl ⟨_, _, rfl, run_takeDeferred YK, ?_⟩⟩
        refine ⟨_, results_cell_row rfl _ _ (s + 1 + 1 + 1) 29 _ _ _ rfl ((World.putObj_heap_other (by omega)).trans HR7.out) Try.underlying29 rfl sizeRat, rfl, ?_⟩
        rw [HS.out]; exact YB.trans (belowK_b (w := w) (by rw [HS.out]; exact Nat.le_refl _) _ D _ _ (by rw [HS.out]; omega) YK rfl rfl))
    case stop =>
      rintro D c pre W _ _ h _
      exact h.elim
end Go.Proofs.Ytegehfcnclpdeaa

/-
  The search: the walk of chain.steps. Condition: the chain can be read; rows as long as there are rows, at most 100.
-/
import Derived.Test.YtegehfcnclpdeaaFmk
import Derived.Test.YtegehfcnclpdeaaFbf
namespace Go.Proofs.Ytegehfcnclpdeaa
open Go.RowKit Go.Shelf
set_option linter.unusedVariables false
attribute [local go_sem] Oper.semAt_some

theorem eInts : Elem Try.prog 39 3 (.int .i64 0) 1 8 := ⟨Try.underlying39, by kernel_rfl, rfl, by decide, by decide⟩
def rowsL (rs : List Rw) : List (List Int) := rs.map (·.l)
theorem wt_row {rs : List Rw} {a c : Nat} {A : Option Addr} {l : List Int} (h : rs[a]? = some ⟨A, c, l⟩) (j : Nat) : wt (rowsL rs) a j = l.getD j 0 := by
  unfold wt rowsL
  rw [List.getD_eq_getElem?_getD (l := List.map _ _), List.getElem?_map, h]
  rfl
theorem mem_pasU {l : List Int} {j : Nat} (hj : 0 < l.getD j 0) : ∀ k, j < k → (j, l.getD j 0) ∈ pasU l k
  | 0, h => by omega
  | k + 1, h => by
    show _ ∈ (if 0 < l.getD k 0 then pasU l k ++ [(k, l.getD k 0)] else pasU l k)
    by_cases e : j = k
    · subst e
      rw [if_pos hj]
      exact List.mem_append.2 (.inr (by simp))
    · have := mem_pasU hj k (by omega)
      split
      · exact List.mem_append.2 (.inl this)
      · exact this
def minusTo (k : Nat) (p : Nat) : Int := if p < k then -1 else 0
theorem boxed_off {W : World} {B g j : Nat} {t : TypeId} {v u : Value} (h : Boxed W B t v) (hne : B ≠ g) : Boxed (W.setCell ⟨g, j, none⟩ u) B t v :=
  h.kept (grown_set W g j u) (fun e => hne (by injection e))
theorem boxed_up {W W' : World} {B : Nat} {t : TypeId} {v : Value} (h : Boxed W B t v) (hb : Below W.heap.size W W') : Boxed W' B t v := (hb.block B h.lt).trans h
def StPost (n : Nat) (L : List (List Int)) (i : Nat) (w : World) (e : Ending) (w' : World) : Prop := ∃ A' c' F, e = .returned (.slice A' n c') ∧ Rd w' w'.heap.size A' (ints (rowF F n)) ∧ StP L n i F ∧ Below w.heap.size w w'
/-- Between two rounds of the search: the frame, and what lies. -/
def StT (L : List (List Int)) (A : Option Addr) (c : Nat) (w : World) (k i s g2 g5 g7 : Nat) (tmps : Array Value) (W : World) : Prop :=
  ∃ (t : Nat) (u2 u3 u4 u6 u9 u10 u11 u12 u13 u14 u15 u16 u17 u18 u19 u20 u21 u22 u23 u24 u25 u26 u27 u28 u29 u30 u31 u32 u33 u34 u35 u36 u37 u38 u39 u40 u41 u42 u43 u44 u45 u46 u47 u48 u49 u50 u51 u52 u53 u54 u55 u56 u57 u58 u59 u60 : Value), tmps = #[.slice A k c, .int .i64 (i : Int), u2, u3, u4, .pointer (some ⟨g5, 0, none⟩), u6, .pointer (some ⟨g7, 0, none⟩), .int .i64 (t : Int), u9, u10, u11, u12, u13, u14, u15, u16, u17, u18, u19, u20, u21, u22, u23, u24, u25, u26, u27, u28, u29, u30, u31, u32, u33, u34, u35, u36, u37, u38, u39, u40, u41, u42, u43, u44, u45, u46, u47, u48, u49, u50, u51, u52, u53, u54, u55, u56, u57, u58, u59, u60] ∧ ∃ (F : Nat → Int) (q : List Nat) (v : Value), Bf L k i F q t ∧ i ∈ q ∧ t ≤ q.length ∧ Boxed W g5 39 (.slice (some ⟨s, 0, none⟩) k k) ∧ W.heap[s]? = some (.cells (ints (rowF F k)).toArray 3 (0, 0)) ∧ Boxed W g7 39 v ∧ W.ownsRow g2 3 1 v q.length (ints (q.map (fun j : Nat => (j : Int)))) ∧ Below s w W
/-- Between two rounds over the passages of a: what the search holds. -/
def StI (L : List (List Int)) (k i t a s g2 g5 g7 g9 : Nat) (ps : List Nat) (W : World) : Prop :=
  ∃ (F' : Nat → Int) (q' : List Nat) (v' : Value), Bf L k i F' q' t ∧ i ∈ q' ∧ q'[t]? = some a ∧ (∀ y ∈ ps, y ∈ q') ∧ v'.ownBlock ≠ some g9 ∧ Boxed W g5 39 (.slice (some ⟨s, 0, none⟩) k k) ∧ W.heap[s]? = some (.cells (ints (rowF F' k)).toArray 3 (0, 0)) ∧ Boxed W g7 39 v' ∧ W.ownsRow g2 3 1 v' q'.length (ints (q'.map (fun j : Nat => (j : Int)))) ∧ Boxed W g9 3 (.int .i64 (a : Int))
theorem stI_own {α : Type} (L : List (List Int)) (k i t a s g2 g5 g7 g9 : Nat) (f : List α → List Nat) : Own (fun (pre : List α) W => StI L k i t a s g2 g5 g7 g9 (f pre) W) := by
  rintro pre X Y row ⟨F', q', v', h1, h2, h3, h4, h5, h6, h7, h8, h9, h10⟩ hg hr
  exact ⟨F', q', v', h1, h2, h3, h4, h5, boxed_kept h6 hg hr, blk_kept h7 hg hr, boxed_kept h8 hg hr, row_kept h9 hg hr, boxed_kept h10 hg hr⟩
set_option maxRecDepth 100000 in
set_option maxHeartbeats 8000000 in
theorem steps_any (A : Option Addr) (rs : List Rw) (c i : Nat) (h100 : rs.length ≤ 100) (hlen : ∀ r ∈ rs, r.l.length = rs.length) (hi : i < rs.length) (w : World) (hr : RdR w w.heap.size A rs) :
    Calls Try.prog 96 #[.slice A rs.length c, .int .i64 i] w fun e w' => StPost rs.length (rowsL rs) i w e w' := by
  refine (callsIn_wide (n := 3)).1 ?_
  refine callsIn_of_wp_marks Try.func96 rfl trivial ?_ rfl
  simp only [Try.ntmps96, List.size_toArray, List.length_cons, List.length_nil, Nat.reduceAdd, Nat.reduceSub, Array.replicate_succ, Array.replicate_zero, List.push_toArray, List.append_toArray, List.nil_append, List.cons_append]
  obtain ⟨i0, hi0, hz0, hz1, hz2⟩ := info_parts eInts.hi
  have HR := Lib.hid hr
  have HL := Lib.hid hlen
  obtain ⟨n, hn⟩ : ∃ n, rs.length = n := ⟨_, rfl⟩
  have HN := Lib.hid hn
  obtain ⟨s, hs⟩ : ∃ s, w.heap.size = s := ⟨_, rfl⟩
  have HS := Lib.hid hs
  have hi' : i < n := by omega
  rw [hn] at h100 ⊢
  clear hr hlen hi hs
  gi_wp2_with (gi_at_make; refine wpListIn_make_full _ rfl (.tmp 12) (.tmp 12) 39 rfl w.heap.size 3 i0 (.int .i64 0) 1 Try.underlying39 hi0 hz0 hz1 .i64 .i64 _ _ n rfl rfl rfl rfl (by rw [hz2]; omega) (by simp only [maxLen]; omega) (Nat.le_refl _) ?_; intro w3 hown hgr; have MD := Lib.hid (made_rowF hown hgr); clear hown hgr)
  rw [HS.out] at MD ⊢
  have b5 := Lib.hid (Boxed.new w3 39 (.slice (some ⟨s, 0, none⟩) n n))
  have hs3 : s < w3.heap.size := lt_of_block' MD.out.2
  obtain ⟨g5, hg5⟩ : ∃ g, w3.heap.size = g := ⟨_, rfl⟩
  have HG5 := Lib.hid hg5
  have M1 := Lib.hid (blk_alloc' (o := .cells #[.slice (some ⟨s, 0, none⟩) n n] 39) MD.out.2)
  have B1 := Lib.hid (MD.out.1.alloc (by omega) (.cells #[.slice (some ⟨s, 0, none⟩) n n] 39))
  rw [hg5] at b5 hs3 ⊢
  clear hg5
  gi_loopw [16] (fun z wr => ∃ k : Nat, k ≤ n ∧ z = .int .i64 k ∧ Boxed wr g5 39 (.slice (some ⟨s, 0, none⟩) n n) ∧ wr.heap[s]? = some (.cells (ints (rowF (minusTo k) n)).toArray 3 (0, 0)) ∧ Below s w wr) (fun z _ => n - (intOf z).toNat)
  case atStart => exact ⟨0, by omega, rfl, b5.out, by rw [M1.out, rowF_congr (F := minusTo 0) (G := fun _ => 0) (fun j _ => rfl)], B1.out⟩
  case round =>
    obtain ⟨k, hk, rfl, h5, h1, hb⟩ := hrel
    have c5 := h5.cell
    by_cases hlt : k < n
    · have b0 : (0 : Int) ≤ (k : Int) := by omega
      have b1 : (k : Int) < (n : Int) := by omega
      have c0 : wr.cell? ⟨s, k, none⟩ = some (.int .i64 (minusTo k k)) := (blk_cell h1).trans (rowF_at hlt)
      have f0 := blk_free h1 k
      have H1 := Lib.hid (show (wr.setCell ⟨s, k, none⟩ (.int .i64 (-1))).heap[s]? = some (.cells (ints (rowF (minusTo (k + 1)) n)).toArray 3 (0, 0)) by
        rw [blk_set h1 k (.int .i64 (-1)), rowF_set (G := minusTo (k + 1)) (by unfold minusTo; rw [if_pos (Nat.lt_succ_self k)]) (fun p hp => by unfold minusTo; split <;> split <;> first | rfl | omega)])
      have H5 := Lib.hid (boxed_off (g := s) (j := k) (u := .int .i64 (-1)) h5 (by omega))
      have HB := Lib.hid (hb.setCell (p := ⟨s, k, none⟩) (Nat.le_refl _) (.int .i64 (-1)))
      clear h1 h5 hb
      gi_wp2
      go_roundw
      case rel => exact ⟨k + 1, by omega, by go_num, H5.out, H1.out, HB.out⟩
      case measure => simp [intOf]; omega
    · obtain rfl : k = n := by omega
      have b0 : (0 : Int) ≤ (i : Int) := by omega
      have b1 : (i : Int) < (k : Int) := by omega
      have c0 : wr.cell? ⟨s, i, none⟩ = some (.int .i64 (minusTo k i)) := (blk_cell h1).trans (rowF_at hi')
      have f0 := blk_free h1 i
      have H1 := Lib.hid (show (wr.setCell ⟨s, i, none⟩ (.int .i64 0)).heap[s]? = some (.cells (ints (rowF (upd (fun _ => -1) i 0) k)).toArray 3 (0, 0)) by
        rw [rowF_congr (F := minusTo k) (G := fun _ => -1) (fun j hj => if_pos hj)] at h1
        rw [blk_set h1 i (.int .i64 0), rowF_set (G := upd (fun _ => -1) i 0) (by rw [upd_at]) (fun p hp => upd_off hp)])
      have H5 := Lib.hid (boxed_off (g := s) (j := i) (u := .int .i64 0) h5 (by omega))
      have HB := Lib.hid (hb.setCell (p := ⟨s, i, none⟩) (Nat.le_refl _) (.int .i64 0))
      clear h1 h5 hb hlt hk
      gi_wp2
      have hsz : (wr.setCell ⟨s, i, none⟩ (.int .i64 0)).heap.size = wr.heap.size := by simp [World.setCell]
      obtain ⟨wa, hwa⟩ : ∃ wa, wr.setCell ⟨s, i, none⟩ (.int .i64 0) = wa := ⟨_, rfl⟩
      rw [hwa] at H1 H5 HB hsz ⊢
      clear hwa c0 f0 c5
      obtain ⟨g2, hg2'⟩ : ∃ g, wr.heap.size = g := ⟨_, rfl⟩
      have hg2 : wa.heap.size = g2 := by rw [hsz, hg2']
      have HOW := Lib.hid (World.ownsRow_lit (base := g2) (e := 3) (size := 1) wa #[.int .i64 (i : Int)] 1 (by omega) (by simp [maxLen]) (by simp))
      have HX1 := Lib.hid (Boxed.new (wa.alloc (.cells #[.int .i64 (i : Int)] 3)) 39 (.slice (some ⟨g2, 0, none⟩) 1 1))
      have hs1 : (wa.alloc (.cells #[.int .i64 (i : Int)] 3)).heap.size = g2 + 1 := by simp [hg2]
      rw [hs1] at HX1
      rw [hg2] at HOW
      rw [hg2']
      have hl5 : g5 < g2 := by have := H5.out.lt; omega
      have hl1 : s < g2 := by omega
      obtain ⟨W2, hW2⟩ : ∃ W2, (wa.alloc (.cells #[.int .i64 (i : Int)] 3)).alloc (.cells #[.slice (some ⟨g2, 0, none⟩) 1 1] 39) = W2 := ⟨_, rfl⟩
      have K1 := Lib.hid (blk_alloc' (o := .cells #[.slice (some ⟨g2, 0, none⟩) 1 1] 39) (blk_alloc' (o := .cells #[.int .i64 (i : Int)] 3) H1.out))
      have K5 := Lib.hid ((H5.out.alloc (.cells #[.int .i64 (i : Int)] 3)).alloc (.cells #[.slice (some ⟨g2, 0, none⟩) 1 1] 39))
      have KO := Lib.hid (HOW.out.alloc (.cells #[.slice (some ⟨g2, 0, none⟩) 1 1] 39))
      have KB := Lib.hid ((HB.out.alloc (by omega) (.cells #[.int .i64 (i : Int)] 3)).alloc (by omega) (.cells #[.slice (some ⟨g2, 0, none⟩) 1 1] 39))
      have hs2 : W2.heap.size = g2 + 1 + 1 := by rw [← hW2]; simp [hg2]
      rw [hW2] at HX1 K1 K5 KO KB ⊢
      obtain ⟨g7, hg7⟩ : ∃ g, g2 + 1 = g := ⟨_, rfl⟩
      rw [hg7] at HX1 hs2 ⊢
      have HQ0 := Lib.hid (Bf.start (L := rowsL rs) (n := k) hi')
      clear H1 H5 HB HOW hW2 hs1 M1 B1 MD b5 hsz hg2 hg2'
      refine wpIn_loop_marks s (fun tmps W => StT (rowsL rs) A c w k i s g2 g5 g7 tmps W) (fun tmps _ => 2 * k - (intOf (tmps.getD 8 undef)).toNat) ?start trivial ?round
      case start => exact ⟨0, _, _, _, _, _, _, _, _, _, _, _, _, _, _, _, _, _, _, _, _, _, _, _, _, _, _, _, _, _, _, _, _, _, _, _, _, _, _, _, _, _, _, _, _, _, _, _, _, _, _, _, _, _, _, _, _, rfl, _, _, _, HQ0.out, by simp, by simp, K5.out, K1.out, HX1.out, by simpa [ints] using KO.out, KB.out⟩
      case round =>
        rintro tmps ds wr2 ⟨t, u2, u3, u4, u6, u9, u10, u11, u12, u13, u14, u15, u16, u17, u18, u19, u20, u21, u22, u23, u24, u25, u26, u27, u28, u29, u30, u31, u32, u33, u34, u35, u36, u37, u38, u39, u40, u41, u42, u43, u44, u45, u46, u47, u48, u49, u50, u51, u52, u53, u54, u55, u56, u57, u58, u59, u60, rfl, F, q, v, hq, hiq, htq, k5, k1, k7, ko, kb⟩ hm
        have c5 := k5.cell
        have c7 := k7.cell
        obtain ⟨Aq, cq, rfl, hcq⟩ := own_form ko
        have hql := hq.len
        by_cases hlt : t < q.length
        · obtain ⟨a, ha⟩ : ∃ a, q[t]? = some a := ⟨_, List.getElem?_eq_getElem hlt⟩
          have han := hq.lt a (List.mem_of_getElem? ha)
          obtain ⟨bq, oq, hAq, _, cq1⟩ := (Rd.of_own ko).at_ (k := t) (u := .int .i64 (a : Int)) (by simp [ints, ha])
          subst hAq
          have b0 : (0 : Int) ≤ (t : Int) := by omega
          have b1 : (t : Int) < (q.length : Int) := by omega
          have HQ := Lib.hid hq
          have KO := Lib.hid ko
          have KB := Lib.hid kb
          have HM := Lib.hid hm
          have HA := Lib.hid ha
          have K5 := Lib.hid k5
          have K7 := Lib.hid k7
          have K1 := Lib.hid k1
          have R9 := Lib.hid (Boxed.new wr2 3 (.int .i64 (a : Int)))
          have c9 := R9.out.cell
          clear hq ko kb hm k1
          gi_wp2_with (refine ⟨trivial, ?_⟩; gi_at_call 91; refine (callsIn_wide.2 (passages_any _ _ _ _ _)).mono ?_; rintro e w' ⟨rfl, rfl⟩)
          obtain ⟨W3, hW3⟩ : ∃ W3, ((wr2.alloc (.cells #[.int .i64 (a : Int)] 3)).alloc (.cells #[.slice A k c] 67)).alloc (.cells #[.int .i64 (a : Int)] 3) = W3 := ⟨_, rfl⟩
          obtain ⟨g9, hg9⟩ : ∃ g, wr2.heap.size = g := ⟨_, rfl⟩
          have hbx1 := Boxed.new (wr2.alloc (.cells #[.int .i64 (a : Int)] 3)) 67 (.slice A k c)
          have hbx2 := Boxed.new ((wr2.alloc (.cells #[.int .i64 (a : Int)] 3)).alloc (.cells #[.slice A k c] 67)) 3 (.int .i64 (a : Int))
          simp only [World.size_alloc, hg9] at hbx1 hbx2
          have P1 := (hbx1.alloc (.cells #[.int .i64 (a : Int)] 3))
          rw [hW3] at hbx2 P1
          have hz3 : W3.heap.size = g9 + 1 + 1 + 1 := by rw [← hW3]; simp [hg9]
          have B3 : Below wr2.heap.size wr2 W3 := by rw [← hW3]; exact (((Below.refl _ wr2).alloc (Nat.le_refl _) _).alloc (by simp) _).alloc (by simp; omega) _
          have hs9 : s ≤ g9 := by have := KB.out.size; rw [HS.out, hg9] at this; exact this
          have hg29 : g7 < g9 := by have := K7.out.lt; omega
          have BS3 : Below s w W3 := KB.out.trans (B3.mono (by omega))
          have X9 : Boxed W3 g9 3 (.int .i64 (a : Int)) := by rw [← hW3, ← hg9]; exact (R9.out.alloc _).alloc _
          have X5 := boxed_up K5.out B3
          have X7 := boxed_up K7.out B3
          have X1 := (B3.block s (lt_of_block' K1.out)).trans K1.out
          have XO := own_below KO.out B3
          have XM := HM.out.below B3
          have HR3 := HR.out.below BS3 (by rw [HS.out]; exact Nat.le_refl _)
          rw [HS.out] at HR3
          have har : a < rs.length := by rw [HN.out]; exact han
          obtain ⟨⟨A', c', l⟩, hrow⟩ : ∃ r, rs[a]? = some r := ⟨_, List.getElem?_eq_getElem har⟩
          have hll : l.length = k := by rw [← HN.out]; exact HL.out _ (List.mem_of_getElem? hrow)
          have hob : (Value.slice (some ⟨bq, oq, none⟩) q.length cq).ownBlock ≠ some g9 := by
            rcases XO.2 with ⟨h0, _⟩ | ⟨g, cap, cur, h0, _, hgb, _⟩
            · cases h0
            · injection h0 with h0
              injection h0 with h0
              injection h0 with h0 h00
              have hbq : bq < g9 := by
                rcases KO.out.2 with ⟨h1, _⟩ | ⟨g', cap', cur', h1, _, hgb', _⟩
                · cases h1
                · injection h1 with h1
                  injection h1 with h1
                  injection h1 with h1
                  have := lt_of_block' hgb'
                  omega
              intro e
              simp [Value.ownBlock] at e
              omega
          have HSt := pas_stops 2 (by decide) (g9 + 1) (g9 + 1 + 1) s A rs c a A' c' l (by omega) W3 (by omega) (by omega) (by omega) (by rw [HN.out]; exact P1.cell) hbx2.cell HR3 hrow
          rw [hg9, hW3]
          have hgs : g9 < W3.heap.size := by omega
          clear hW3 B3 hbx1 hbx2 P1 HR3 R9 c9 K1 K5 K7 KO KB HM HQ0 k5 k7 c5 c7 cq1 hg9
          refine wpIn_rangeFunc_ownF (n := 3) rfl (by decide) (gf := 104) (lb := #[.pointer (some ⟨g9 + 1, 0, none⟩), .pointer (some ⟨g9 + 1 + 1, 0, none⟩)]) rfl trivial (enters_of Try.func104 (by kernel_rfl) rfl)
            HSt belowK_t (belowK_b (by omega)) (Below.refl _ _) (fun _ => rfl)
            (fun pre W => StI (rowsL rs) k i t a s g2 g5 g7 g9 (pre.map fun x => x.1.1) W ∧ Below s w W ∧ Marks s ds W)
            (fun _ _ _ => False)
            (OwnFrom.and (Own.from (stI_own _ _ _ _ _ _ _ _ _ _ _) _) (OwnFrom.and (ownFrom_below (by rw [HS.out]; exact Nat.le_refl _) (by omega)) (marks_own s _ ds fun D hD => by have := XM.lt D hD; omega)))
            (fun _ _ _ _ _ hs _ _ => hs)
            ⟨⟨F, q, _, HQ.out, hiq, HA.out, by simp, hob, X5, X1, X7, XO, X9⟩, BS3, XM⟩
            ?a₁ ?assign ?body ?done ?stop
          case assign =>
            intro l x W K hK
            gi_wp2
            exact hK
          case body =>
            rintro ll pre x W ⟨⟨F', q', v', hq', hiq', hat, hpre, hob', k5, k1, k7, ko, k9⟩, hB, hM⟩ hlen
            have hxl : x.1.1 < k := by
              obtain ⟨h1, _⟩ := List.getElem?_eq_some_iff.1 x.2.1
              omega
            have hxw : 0 < wt (rowsL rs) a x.1.1 := by
              rw [wt_row hrow, List.getD_eq_getElem?_getD, x.2.1]
              exact x.2.2
            have c5 := k5.cell
            have c9 := k9.cell
            have b0 : (0 : Int) ≤ (x.1.1 : Int) := by omega
            have b1 : (x.1.1 : Int) < (k : Int) := by omega
            have cx : W.cell? ⟨s, x.1.1, none⟩ = some (.int .i64 (F' x.1.1)) := (blk_cell k1).trans (rowF_at hxl)
            by_cases hF : F' x.1.1 = -1
            · obtain ⟨ka, hka, hFa, _⟩ := hq'.pos t a hat
              have hql' := hq'.len
              have htl : t < q'.length := (List.getElem?_eq_some_iff.1 hat).1
              have e1 : (F' x.1.1 == -1) = true := by simpa using hF
              have ca : W.cell? ⟨s, a, none⟩ = some (.int .i64 (ka : Int)) := by rw [← hFa]; exact (blk_cell k1).trans (rowF_at han)
              have fx := blk_free k1 x.1.1
              have b2 : (0 : Int) ≤ (a : Int) := by omega
              have b3 : (a : Int) < (k : Int) := by omega
              have hq2 := hq'.add hat hxl hxw hF
              rw [hFa] at hq2
              have HQ2 := Lib.hid hq2
              obtain ⟨Aq', cq', rfl, hcq'⟩ := own_form ko
              have D1 := Lib.hid (show (W.setCell ⟨s, x.1.1, none⟩ (.int .i64 ((ka : Int) + 1))).drew.heap[s]? = some (.cells (ints (rowF (upd F' x.1.1 ((ka : Int) + 1)) k)).toArray 3 (0, 0)) by
                show (W.setCell ⟨s, x.1.1, none⟩ (.int .i64 ((ka : Int) + 1))).heap[s]? = _
                rw [blk_set k1 x.1.1 _, rowF_set (G := upd F' x.1.1 ((ka : Int) + 1)) (by rw [upd_at]) (fun p hp => upd_off hp)])
              have D5 := Lib.hid (show Boxed (W.setCell ⟨s, x.1.1, none⟩ (.int .i64 ((ka : Int) + 1))).drew g5 _ _ from boxed_off (g := s) (j := x.1.1) (u := .int .i64 ((ka : Int) + 1)) k5 (by omega))
              have D7 := Lib.hid (show Boxed (W.setCell ⟨s, x.1.1, none⟩ (.int .i64 ((ka : Int) + 1))).drew g7 _ _ from boxed_off (g := s) (j := x.1.1) (u := .int .i64 ((ka : Int) + 1)) k7 (by omega))
              have D9 := Lib.hid (show Boxed (W.setCell ⟨s, x.1.1, none⟩ (.int .i64 ((ka : Int) + 1))).drew g9 _ _ from boxed_off (g := s) (j := x.1.1) (u := .int .i64 ((ka : Int) + 1)) k9 (by omega))
              have DO := Lib.hid (show (W.setCell ⟨s, x.1.1, none⟩ (.int .i64 ((ka : Int) + 1))).drew.ownsRow g2 3 1 _ _ _ from own_set ko (by omega) (.int .i64 ((ka : Int) + 1)) x.1.1)
              have DB := Lib.hid (show Below s W (W.setCell ⟨s, x.1.1, none⟩ (.int .i64 ((ka : Int) + 1))).drew from ((Below.refl s W).setCell (p := ⟨s, x.1.1, none⟩) (Nat.le_refl _) _).drew)
              have DK := Lib.hid (show KeepsOthers W (W.setCell ⟨s, x.1.1, none⟩ (.int .i64 ((ka : Int) + 1))).drew from (KeepsOthers.setCell _ _ _).trans (KeepsOthers.drew _))
              have d7 := D7.out.cell
              have HZ := Lib.hid (show _ ∧ _ from ⟨hpre, hM⟩)
              have hgW : g9 < (W.setCell ⟨s, x.1.1, none⟩ (.int .i64 ((ka : Int) + 1))).drew.heap.size := D9.out.lt
              have hwr : IntKind.i64.wrap ((ka : Int) + 1) = (ka : Int) + 1 := by rw [IntKind.wrap_i64]; omega
              clear hq' hpre hM hF hq2 k1 hFa
              gi_wp2
              refine (fun hk => ?main) (?pf : ?G)
              case main =>
                gi_region
                all_goals exact hk
              case pf =>
                obtain ⟨Wd, hWd⟩ : ∃ Wd, (W.setCell ⟨s, x.1.1, none⟩ (.int .i64 ((ka : Int) + 1))).drew = Wd := ⟨_, rfl⟩
                rw [hWd] at D1 D5 D7 D9 DO DB DK d7 hgW ⊢
                clear hWd
                gi_wp2_with (gi_at_builtin; refine appIn (w0 := Wd) eInts rfl _ _ rfl rfl (DO.out.alloc _) ((Below.refl g2 Wd).alloc (by omega) _) (by simp; omega) ⟨Wd.heap.size, 0, none⟩ 1 (m := 1) (news := [.int .i64 (x.1.1 : Int)]) rfl (cell_one_new _ _ _) rfl (by simp [Value.oneCell']) (q'.length + 1) rfl (by omega) ?_; intro A2 c2 w11 o2 b2 hg2 hd2; have E7 := boxed_app D7.out (by decide) DO.out hg2; have e7c := E7.cell; have e7f := E7.frozen; have O2 := Lib.hid o2; have B2 := Lib.hid b2; have G2 := Lib.hid hg2; have DD := Lib.hid hd2; clear o2 b2 hg2 hd2)
                have hgr : (Wd.alloc (.cells #[.int .i64 (x.1.1 : Int)] 3)).grownBy w11 (Value.slice Aq' q'.length cq').ownBlock := G2.out
                obtain ⟨_, Z7, ZO, ZK, ZB⟩ := D7.out.appended (by decide) DO.out (by omega) (by omega) O2.out hgr
                have E9 : Boxed w11 g9 3 (.int .i64 (a : Int)) := (D9.out.alloc _).kept hgr (fun e => hob' e.symm)
                have Z9 := boxed_off (g := g7) (j := 0) (u := .slice A2 (q'.length + 1) c2) E9 (by omega)
                have Z5 := (ZB.block g5 (by omega)).trans D5.out
                have Z1 := (ZB.block s (by omega)).trans D1.out
                have hob2 : (Value.slice A2 (q'.length + 1) c2).ownBlock ≠ some g9 := by
                  rcases DD.out with h | h
                  · rw [h]; exact hob'
                  · rw [h]; simp; omega
                have hKK := DK.out.trans ZK
                have hBB := DB.out.trans (ZB.mono (by omega))
                refine ⟨hKK, hBB, ⟨_, q' ++ [x.1.1], _, HQ2.out, List.mem_append.2 (.inl hiq'), ?_, ?_, hob2, Z5, Z1, Z7, ?_, Z9⟩, hB.trans hBB, HZ.out.2.keeps hKK⟩
                · rw [List.getElem?_append_left htl]; exact hat
                · intro y hy
                  rw [List.map_append] at hy
                  rcases List.mem_append.1 hy with h | h
                  · exact List.mem_append.2 (.inl (HZ.out.1 y h))
                  · rw [List.mem_singleton.1 h]; exact List.mem_append.2 (.inr (by simp))
                · rw [show (q' ++ [x.1.1]).length = q'.length + 1 by simp, show ints ((q' ++ [x.1.1]).map (fun j : Nat => (j : Int))) = ints (q'.map (fun j : Nat => (j : Int))) ++ [.int .i64 (x.1.1 : Int)] by simp [ints]]
                  exact ZO
            · have e1 : (F' x.1.1 == -1) = false := by simpa using hF
              have hin : x.1.1 ∈ q' := by
                rcases Classical.em (x.1.1 ∈ q') with h | h
                · exact h
                · exact absurd ((hq'.neg _ hxl).2 h) hF
              have HZ := Lib.hid (show _ ∧ _ ∧ _ from ⟨hq', hpre, hM⟩)
              clear hq' hpre hM hF
              gi_wp2
              exact ⟨KeepsOthers.refl _, Below.refl _ _, ⟨F', q', v', HZ.out.1, hiq', hat, fun y hy => by
                rw [List.map_append] at hy
                rcases List.mem_append.1 hy with h | h
                · exact HZ.out.2.1 y h
                · rw [List.mem_singleton.1 h]; exact hin, hob', k5, k1, k7, ko, k9⟩, hB, HZ.out.2.2⟩
          case done =>
            rintro D ys W hD hys ⟨⟨F', q', v', hq', hiq', hat, hpre, hob', k5, k1, k7, ko, k9⟩, hB, hM⟩ hK
            have htl : t < q'.length := (List.getElem?_eq_some_iff.1 hat).1
            have hql' := hq'.len
            have hnx := hq'.next hat (fun j hj hw => by
              rw [wt_row hrow] at hw
              have hm := mem_pasU hw l.length (by omega)
              rw [← hys] at hm
              obtain ⟨y, hy, he⟩ := List.mem_map.1 hm
              exact hpre j (List.mem_map.2 ⟨y, hy, by rw [he]⟩))
            have hmk := hM.push (D := D) (by omega) hK (fun D' hD' => by have := XM.lt D' hD'; omega)
            have HZ := Lib.hid (show _ ∧ _ from ⟨hnx, hmk⟩)
            clear hq' hpre hM hnx hmk hys k9
            gi_wp2
            refine ⟨⟨⟨t + 1, _, _, _, _, _, _, _, _, _, _, _, _, _, _, _, _, _, _, _, _, _, _, _, _, _, _, _, _, _, _, _, _, _, _, _, _, _, _, _, _, _, _, _, _, _, _, _, _, _, _, _, _, _, _, _, _, rfl, F', q', v', HZ.out.1, hiq', htl, k5, k1, k7, ko, hB⟩, HZ.out.2⟩, ?_⟩
            simp [intOf]
            omega
          case stop =>
            rintro D c pre W _ _ h _
            exact h.elim
        · have e1 : decide ((t : Int) < (q.length : Int)) = false := decide_eq_false (by omega)
          have e1' : decide (t < q.length) = false := decide_eq_false (by omega)
          have hdone := hq.done hiq (by omega)
          have KB := Lib.hid kb
          have K1 := Lib.hid k1
          have HM := Lib.hid hm
          clear hq kb hm k1 hlt ko k7
          gi_wp2
          refine leaves_marks (n₀ := s) (fun W => W.heap[s]? = some (.cells (ints (rowF F k)).toArray 3 (0, 0)) ∧ Below s w W) (fun W D hD hK hi => ⟨blk_kept hi.1 (grownBy_putObj' W D _) (fun r e => by cases e; exact ⟨_, hK, rfl⟩), hi.2.trans (belowK_b (w := w) (by rw [HS.out]; exact Nat.le_refl _) W D _ _ (by rw [HS.out]; exact hD) hK rfl rfl)⟩) (fun W hi => ?_) ds _ HM.out ⟨K1.out, KB.out⟩
          refine ⟨_, results_tmp rfl _ _ _, some ⟨s, 0, none⟩, k, F, rfl, Rd.of_block hi.1, hdone, ?_⟩
          rw [HS.out]
          exact hi.2
end Go.Proofs.Ytegehfcnclpdeaa

/-
  What is read of a book in the program: the walk of read. Conditions: sizes; the tables that a row lists.
-/
import Derived.Test.YtoenecgjiejljaaDoorBha
import Derived.Deep.RegionHeld3
namespace Go.Proofs.YtoenecgjiejljaaDoor
open Go.RowKit
set_option linter.unusedVariables false

theorem sizeReading : (Tryd.prog.info? 111).map (·.size) = some 5 := by kernel_rfl
theorem put5 {W : World} {g : Nat} {a0 a1 a2 a3 a4 : Value} {t : TypeId} (h : W.heap[g]? = some (.cells #[a0, a1, a2, a3, a4] t (0, 0))) (b0 b1 b2 b3 b4 : Value) :
    (W.cell? ⟨g, 0, none⟩ = some a0 ∧ W.frozen? ⟨g, 0, none⟩ = false) ∧
    ((W.setCell ⟨g, 0, none⟩ b0).cell? ⟨g, 1, none⟩ = some a1 ∧ (W.setCell ⟨g, 0, none⟩ b0).frozen? ⟨g, 1, none⟩ = false) ∧
    (((W.setCell ⟨g, 0, none⟩ b0).setCell ⟨g, 1, none⟩ b1).cell? ⟨g, 2, none⟩ = some a2 ∧ ((W.setCell ⟨g, 0, none⟩ b0).setCell ⟨g, 1, none⟩ b1).frozen? ⟨g, 2, none⟩ = false) ∧
    ((((W.setCell ⟨g, 0, none⟩ b0).setCell ⟨g, 1, none⟩ b1).setCell ⟨g, 2, none⟩ b2).cell? ⟨g, 3, none⟩ = some a3 ∧ (((W.setCell ⟨g, 0, none⟩ b0).setCell ⟨g, 1, none⟩ b1).setCell ⟨g, 2, none⟩ b2).frozen? ⟨g, 3, none⟩ = false) ∧
    (((((W.setCell ⟨g, 0, none⟩ b0).setCell ⟨g, 1, none⟩ b1).setCell ⟨g, 2, none⟩ b2).setCell ⟨g, 3, none⟩ b3).cell? ⟨g, 4, none⟩ = some a4 ∧ ((((W.setCell ⟨g, 0, none⟩ b0).setCell ⟨g, 1, none⟩ b1).setCell ⟨g, 2, none⟩ b2).setCell ⟨g, 3, none⟩ b3).frozen? ⟨g, 4, none⟩ = false) ∧
    Hid ((((((W.setCell ⟨g, 0, none⟩ b0).setCell ⟨g, 1, none⟩ b1).setCell ⟨g, 2, none⟩ b2).setCell ⟨g, 3, none⟩ b3).setCell ⟨g, 4, none⟩ b4).heap[g]? = some (.cells #[b0, b1, b2, b3, b4] t (0, 0))) ∧
    Hid (W.grownBy (((((W.setCell ⟨g, 0, none⟩ b0).setCell ⟨g, 1, none⟩ b1).setCell ⟨g, 2, none⟩ b2).setCell ⟨g, 3, none⟩ b3).setCell ⟨g, 4, none⟩ b4) (some g)) := by
  have h1 := blk_set h 0 b0
  have h2 := blk_set h1 1 b1
  have h3 := blk_set h2 2 b2
  have h4 := blk_set h3 3 b3
  exact ⟨⟨blk_cell h, blk_free h 0⟩, ⟨blk_cell h1, blk_free h1 1⟩, ⟨blk_cell h2, blk_free h2 2⟩, ⟨blk_cell h3, blk_free h3 3⟩, ⟨blk_cell h4, blk_free h4 4⟩, blk_set h4 4 b4, (grown_set W g 0 b0).trans ((grown_set _ g 1 b1).trans ((grown_set _ g 2 b2).trans ((grown_set _ g 3 b3).trans (grown_set _ g 4 b4))))⟩
theorem Tb.upB {w w' : World} {B : Nat} (h : Tb w) (hb : Below B w w') (hB : 3 < B ∧ 8 < B ∧ 9 < B) : Tb w' := by
  obtain ⟨l1, l2, l3⟩ := hB
  refine ⟨var?_below hb (g := 3) (by kernel_rfl) l1 h.tab, ?_, ?_, Nat.lt_of_lt_of_le h.lt.1 hb.size, Nat.lt_of_lt_of_le h.lt.2.1 hb.size, Nat.lt_of_lt_of_le h.lt.2.2 hb.size⟩
  · obtain ⟨ev, h1, h2⟩ := h.es
    exact ⟨ev, (hb.cell (p := ⟨8, 0, none⟩) l2).trans h1, h2⟩
  · obtain ⟨ev, h1, h2⟩ := h.er
    exact ⟨ev, (hb.cell (p := ⟨9, 0, none⟩) l3).trans h1, h2⟩
/-- How long the rest of a reading is. -/
def rsz (br : Nat) (w : World) : Nat := match w.cell? ⟨br, 4, none⟩ with
  | some (.string s) => s.size
  | _ => 0
theorem RdSt.rsz {w : World} {B br : Nat} {bg : Bool} {n x : Nat} {A : Option Addr} {c : Nat} {P : List (List UInt8)} {rr : List UInt8} (h : RdSt w B br bg n x A c P rr) : rsz br w = rr.length := by
  unfold Go.Proofs.YtoenecgjiejljaaDoor.rsz
  rw [h.c4]
  exact sL_size rr
/-- The reading's value. -/
def rdgV (bg : Bool) (n x : Nat) (A : Option Addr) (N c : Nat) (s : ByteArray) : Value := .agg #[.bool bg, .int .i64 n, .int .i64 x, .slice A N c, .string s]
/-- What read returns. -/
def ReadPost (t : List UInt8) (w : World) (e : Ending) (w' : World) : Prop :=
  Below w.heap.size w w' ∧ ((rdE t ≠ 0 ∧ e = .returned (.tuple #[rdgV false 0 0 none 0 0 ⟨#[]⟩, .int .i64 (rdE t)])) ∨
    (rdE t = 0 ∧ ∃ n x : Nat, ∃ A c, rdN t = n ∧ n ≤ 64 ∧ e = .returned (.tuple #[rdgV true n x A (rdP t).length c (sL (rdR t)), .int .i64 0]) ∧ (rdP t).length ≤ c ∧ Rd w' w'.heap.size A (txl (rdP t))))
theorem own_ge' {w : World} {B n : Nat} {e : TypeId} {size : Nat} {v : Value} {xs : List Value} (h : w.ownsRow B e size v n xs) (j : Nat) (hj : v.ownBlock = some j) : B ≤ j := (h.lt j hj).1
/-- The stand of a reading. -/
def Std (t : List UInt8) (bg : Bool) (n x : Nat) (P : List (List UInt8)) (rr : List UInt8) : Prop :=
  (bg = false ∧ n = 0 ∧ x = 0 ∧ P = [] ∧ rr = t) ∨ (bg = true ∧ ∃ r0, rdH t = some ((n, x), r0) ∧ n ≤ 64 ∧ x < 2147483647 ∧ P.length ≤ n ∧ (∀ l ∈ P, l.length ≤ 60) ∧ tk n r0 = (P ++ (tk (n - P.length) rr).1, (tk (n - P.length) rr).2))
theorem Std.n64 {t : List UInt8} {bg : Bool} {n x : Nat} {P : List (List UInt8)} {rr : List UInt8} (h : Std t bg n x P rr) : n ≤ 64 ∧ P.length ≤ n := by
  rcases h with ⟨_, h1, _, h2, _⟩ | ⟨_, _, _, h1, _, h2, _⟩
  · rw [h1, h2]; simp
  · exact ⟨h1, h2⟩
set_option maxRecDepth 16000 in
set_option maxHeartbeats 16000000 in
theorem read_any (t : List UInt8) (w : World) (hsz : t.length ≤ 9000) (hT : Tb w) : Calls Tryd.prog 95 #[.string (sL t)] w (ReadPost t w) := by
  unfold ReadPost
  obtain ⟨W1, hW1, k1, s1, b1⟩ := one_blk w #[.bool false, .int .i64 0, .int .i64 0, .slice none 0 0, .string ⟨#[]⟩] 111
  obtain ⟨W2, hW2, k2, s2, b2⟩ := one_blk W1 #[.bool false, .int .i64 0, .int .i64 0, .slice none 0 0, .string (sL t)] 111
  have T2 := Lib.hid ((hT.up b1).up b2)
  have B2 := Lib.hid (b1.trans (b2.mono (Nat.le_of_lt s1)))
  have G2 := Lib.hid ((b2.block w.heap.size s1).trans k1)
  have S2 := Lib.hid (show RdSt W2 (W1.heap.size + 1) W1.heap.size false 0 0 none 0 [] t from ⟨k2, World.ownsRow_nil _ _ _ _, Nat.lt_succ_self _, s2⟩)
  have HBr := Lib.hid s1
  have HB6 := Lib.hid (show 3 < W1.heap.size ∧ 8 < W1.heap.size ∧ 9 < W1.heap.size from ⟨Nat.lt_trans hT.lt.1 s1, Nat.lt_trans hT.lt.2.1 s1, Nat.lt_trans hT.lt.2.2 s1⟩)
  have HD := Lib.hid (show Std t false 0 0 [] t from .inl ⟨rfl, rfl, rfl, rfl, rfl⟩)
  obtain ⟨br, hbr⟩ : ∃ br, W1.heap.size = br := ⟨_, rfl⟩
  rw [hbr] at S2 HBr HB6
  clear hT k1 k2 b1 b2 s1 s2
  go_enter Tryd.func95, Tryd.ntmps95
  go_wp2_with fail
  clear hbr hW1 hW2
  go_loopw [] (fun wr => ∃ (bg : Bool) (n x : Nat) (A : Option Addr) (c : Nat) (P : List (List UInt8)) (rr : List UInt8), RdSt wr (br + 1) br bg n x A c P rr ∧ Std t bg n x P rr ∧ rr.length ≤ 9000 ∧ Tb wr ∧ wr.heap[w.heap.size]? = some (.cells #[.bool false, .int .i64 0, .int .i64 0, .slice none 0 0, .string ⟨#[]⟩] 111 (0, 0)) ∧ Below w.heap.size w wr) (fun wr => rsz br wr)
  case atStart => exact ⟨false, 0, 0, none, 0, [], t, S2.out, HD.out, hsz, T2.out, G2.out, B2.out⟩
  case round =>
    obtain ⟨bg, n, x, A, c, P, rr, h1, h2, h3, h4, h5, h6⟩ := hrel
    have ST := Lib.hid h1
    have SD := Lib.hid h2
    have T3 := Lib.hid h4
    have G3 := Lib.hid h5
    have B3 := Lib.hid h6
    have H9 := Lib.hid h3
    have HCut := Lib.hid (cutLine_any rr wr h3 h4)
    unfold CtPost at HCut
    have c4 := h1.c4
    have HRs := Lib.hid h1.rsz
    obtain ⟨sr, hsr⟩ : ∃ sr, sL rr = sr := ⟨_, rfl⟩
    rw [hsr] at c4 HCut
    clear h1 h2 h3 h4 h5 h6 hsr
    go_wp2_with fail
    refine HCut.out.mono ?_
    rintro e w3 ⟨hb, hh⟩
    have ST3 := Lib.hid (ST.out.up hb)
    have T4 := Lib.hid (T3.out.up hb)
    have HLb := Lib.hid (show br < wr.heap.size from Nat.lt_of_lt_of_le (Nat.lt_succ_self _) ST.out.le)
    have G4 := Lib.hid ((hb.block w.heap.size (Nat.lt_trans HBr.out HLb.out)).trans G3.out)
    have B4 := Lib.hid (B3.out.trans (hb.mono B3.out.size))
    have HNB := Lib.hid SD.out.n64
    clear hb c4
    rcases hh with ⟨hno, s, rfl⟩ | ⟨f, r, n', x', hl, hp, hd, rfl⟩ | ⟨f, r, hl, hp, hd, rfl⟩
    · have HStop := Lib.hid (show (rr = t → rdH t = none) ∧ ∀ k, tk k rr = ([], rr) from by
        rcases hno with h | ⟨f, r, h, hp⟩
        · exact ⟨fun e => rdH_ln (by rw [← e]; exact h), fun k => tk_none h⟩
        · refine ⟨fun e => rdH_hd (by rw [← e]; exact h) (hdO_none.2 fun n x hh => ?_), fun k => tk_bad h hp⟩
          rw [hd_page hh] at hp
          cases hp)
      have HTa := Lib.hid (take_nil br w3)
      clear hno
      go_wp2_with fail
      refine HTa.out.mono ?_
      rintro e w5 ⟨rfl, hb⟩
      have ST5 := Lib.hid (ST3.out.up hb)
      have HLb5 := Lib.hid (show br < w3.heap.size from Nat.lt_of_lt_of_le (Nat.lt_succ_self _) ST3.out.le)
      have G5 := Lib.hid ((hb.block w.heap.size (Nat.lt_trans HBr.out HLb5.out)).trans G4.out)
      have B5 := Lib.hid (B4.out.trans (hb.mono B4.out.size))
      clear hb
      rcases SD.out with ⟨rfl, rfl, rfl, rfl, rfl⟩ | ⟨rfl, r0, hH, h64, hx, hPn, hP60, htk⟩
      · have HN := Lib.hid (HStop.out.1 rfl)
        have q0 := ST5.out.c0
        obtain ⟨⟨d0, f0⟩, ⟨d1, f1⟩, ⟨d2, f2⟩, ⟨d3, f3⟩, ⟨d4, f4⟩, HR, HGr⟩ := put5 G5.out (.bool false) (.int .i64 0) (.int .i64 0) (.slice none 0 0) (.string ⟨#[]⟩)
        have BZ := Lib.hid (B5.out.grown HGr.out B5.out.size fun q hq => by injection hq with hq; omega)
        clear HGr
        go_wp2_with fail
        (try simp only [Exit.inBlock, Exit.then])
        refine bodyPost_ret (v := .tuple #[rdgV false 0 0 none 0 0 ⟨#[]⟩, .int .i64 2]) (results_row_tmp (p := 2) (u := 3) rfl _ _ w.heap.size 111 _ _ _ rfl HR.out Tryd.underlying111 rfl sizeReading) rfl ?_
        exact ⟨BZ.out, .inl ⟨by rw [rd_none HN.out]; decide, by rw [rd_none HN.out]⟩⟩
      · have HH := Lib.hid hH
        have HTK2 := Lib.hid (show tk n r0 = (P, rr) by rw [htk, HStop.out.2]; simp)
        have H64 := Lib.hid h64
        have HP60 := Lib.hid hP60
        have HPn := Lib.hid hPn
        clear hH h64 hx hPn hP60 htk
        have q0 := ST5.out.c0
        have HLk := Lib.hid (fun m => lacks_any br n P.length c A (w5.drewN m) ST5.out.c1 ST5.out.c3)
        by_cases hlt : P.length < n
        · have HF := Lib.hid (rd_some HH.out HTK2.out (by omega))
          rw [decide_eq_true hlt] at HLk
          clear hlt
          go_wp2_with fail
          go_quiet ((go_at_call 139; with_reducible exact qmB (HLk.out _)))
          clear q0
          obtain ⟨mq, hmq⟩ : ∃ mq, mq = nq := ⟨_, rfl⟩
          have STq := Lib.hid (ST5.out.drewN nq)
          have Gq := Lib.hid (show (w5.drewN nq).heap[w.heap.size]? = _ from G5.out)
          have Bq := Lib.hid (bdDN B5.out nq)
          clear hmq
          generalize w5.drewN nq = wq at *
          have HSv := Lib.hid STq.out
          obtain ⟨⟨d0, f0⟩, ⟨d1, f1⟩, ⟨d2, f2⟩, ⟨d3, f3⟩, ⟨d4, f4⟩, HR, HGr⟩ := put5 Gq.out (.bool true) (.int .i64 n) (.int .i64 x) (.slice A P.length c) (.string (sL rr))
          have BZ := Lib.hid (Bq.out.grown HGr.out Bq.out.size fun q hq => by injection hq with hq; omega)
          have OWz := Lib.hid (STq.out.own.kept HGr.out (.inr (fun hq => by have := (own_ge' STq.out.own _ hq); have := HBr.out; omega)))
          have l0 := STq.out.c0
          have l1 := STq.out.c1
          have l2 := STq.out.c2
          have l3 := STq.out.c3
          have l4 := STq.out.c4
          clear HGr
          go_wp2_with fail
          (try simp only [Exit.inBlock, Exit.then])
          refine bodyPost_ret (v := .tuple #[rdgV true n x A P.length c (sL rr), .int .i64 0]) (results_row_tmp (p := 2) (u := 3) rfl _ _ w.heap.size 111 _ _ _ rfl HR.out Tryd.underlying111 rfl sizeReading) rfl ?_
          refine ⟨BZ.out, .inr ⟨HF.out.1, n, x, A, c, HF.out.2.2.1, H64.out, by rw [HF.out.2.1, HF.out.2.2.2], ?_, ?_⟩⟩
          · rw [HF.out.2.1]; obtain ⟨_, _, h, hh⟩ := own_form HSv.out.own; cases h; exact hh
          · rw [HF.out.2.1]; exact Rd.of_own OWz.out
        · have hPe : P.length = n := by have := HPn.out; omega
          rw [decide_eq_false hlt] at HLk
          have HSz := Lib.hid (show Sz (P.map sL) from fun s hs => by
            obtain ⟨l, hl, rfl⟩ := List.mem_map.1 hs
            have := HP60.out l hl
            rw [sL_size]; omega)
          have h64P : P.length ≤ 64 := by have := H64.out; omega
          have HLd := Lib.hid (lacks_any br n P.length c A w5.drew ST5.out.c1 ST5.out.c3)
          rw [decide_eq_false hlt] at HLd
          have HSu := Lib.hid (fun w' (hr : Rd w' w'.heap.size A (txts (P.map sL))) => sumsOf_any A c (P.map sL) w' hr HSz.out (by rw [List.length_map]; exact h64P))
          rw [List.length_map] at HSu
          have HRo := Lib.hid (fun A2 c2 w2 h1 h2 => rootOf_any P.length (smsL (P.map sL)) A2 c2 w2 (by rw [smsL_len, List.length_map]) h64P (smsL_sm _) h1 h2)
          have STd := Lib.hid (ST5.out.up ((Below.refl w5.heap.size w5).drew))
          have Gd := Lib.hid (show w5.drew.heap[w.heap.size]? = _ from G5.out)
          have Bd := Lib.hid (B5.out.drew)
          have HLs := Lib.hid (show ∀ w' : World, RdSt w' (br + 1) br true n x A c P rr → br < w'.heap.size from fun w' h => Nat.lt_of_lt_of_le (Nat.lt_succ_self _) h.le)
          have K0 := Lib.hid (And.intro STd.out.c2 STd.out.c3)
          have HPe := Lib.hid hPe
          clear hlt hPe h64P HLk
          by_cases hrt : rt (smsL (P.map sL)) = (x : Int)
          · have HF := Lib.hid (rd_some HH.out HTK2.out (by intro h; exact h.2 hrt))
            rw [hrt] at HRo
            have z1 : ((x : Int) != (x : Int)) = false := by simp
            have z1' : (x != x) = false := by simp
            clear hrt
            go_wp2_with fail
            clear q0
            go_region_held3 (fun w' => w'.cell? ⟨br, 2, none⟩ = some (.int .i64 x) ∧ w'.cell? ⟨br, 3, none⟩ = some (.slice A P.length c))
              (first | exact K0.out | exact K1.out | exact K2.out | exact K3.out)
              ((first
                | (go_at_call 139; refine HLd.out.mono ?_; rintro e w' ⟨rfl, m1, rfl⟩; have STq := Lib.hid (STd.out.drewN m1); have Gq := Lib.hid (show (w5.drew.drewN m1).heap[w.heap.size]? = _ from Gd.out); have Bq := Lib.hid (bdDN Bd.out m1); generalize w5.drew.drewN m1 = wq at *; have K1 := Lib.hid (And.intro STq.out.c2 STq.out.c3))
                | (go_at_call 90; refine (HSu.out wq (Rd.of_own STq.out.own)).mono ?_; rintro e w7 ⟨A7, c7, rfl, hc7, hr7, hb⟩; have HC7 := Lib.hid hc7; have R7 := Lib.hid hr7; have ST7 := Lib.hid (STq.out.up hb); have G7 := Lib.hid ((hb.block w.heap.size (Nat.lt_trans HBr.out (HLs.out _ STq.out))).trans Gq.out); have B7 := Lib.hid (Bq.out.trans (hb.mono Bq.out.size)); have K2 := Lib.hid (And.intro ST7.out.c2 ST7.out.c3); clear hb hc7 hr7)
                | (go_at_call 89; refine (HRo.out A7 c7 w7 HC7.out R7.out).mono ?_; rintro e w' ⟨rfl, m2, rfl⟩; have ST8 := Lib.hid (ST7.out.drewN m2); have G8 := Lib.hid (show (w7.drewN m2).heap[w.heap.size]? = _ from G7.out); have B8 := Lib.hid (bdDN B7.out m2); generalize w7.drewN m2 = w8 at *; have K3 := Lib.hid (And.intro ST8.out.c2 ST8.out.c3))
                | fail))
            all_goals (
              have HSv := Lib.hid ST8.out
              obtain ⟨⟨d0, f0⟩, ⟨d1, f1⟩, ⟨d2, f2⟩, ⟨d3, f3⟩, ⟨d4, f4⟩, HR, HGr⟩ := put5 G8.out (.bool true) (.int .i64 n) (.int .i64 x) (.slice A P.length c) (.string (sL rr))
              have BZ := Lib.hid (B8.out.grown HGr.out B8.out.size fun q hq => by injection hq with hq; omega)
              have OWz := Lib.hid (ST8.out.own.kept HGr.out (.inr (fun hq => by have := (own_ge' ST8.out.own _ hq); have := HBr.out; omega)))
              have l0 := ST8.out.c0
              have l1 := ST8.out.c1
              have l2 := ST8.out.c2
              have l3 := ST8.out.c3
              have l4 := ST8.out.c4
              clear HGr
              go_wp2_with fail
              (try simp only [Exit.inBlock, Exit.then])
              refine bodyPost_ret (v := .tuple #[rdgV true n x A P.length c (sL rr), .int .i64 0]) (results_row_tmp (p := 2) (u := 3) rfl _ _ w.heap.size 111 _ _ _ rfl HR.out Tryd.underlying111 rfl sizeReading) rfl ?_
              refine ⟨BZ.out, .inr ⟨HF.out.1, n, x, A, c, HF.out.2.2.1, H64.out, by rw [HF.out.2.1, HF.out.2.2.2], ?_, ?_⟩⟩
              · rw [HF.out.2.1]; obtain ⟨_, _, h, hh⟩ := own_form HSv.out.own; cases h; exact hh
              · rw [HF.out.2.1]; exact Rd.of_own OWz.out)
          · have HE7 := Lib.hid (rd_seven HH.out HTK2.out ⟨HPe.out, hrt⟩)
            have z1 : (rt (smsL (P.map sL)) != (x : Int)) = true := by simpa using hrt
            generalize rt (smsL (P.map sL)) = yv at *
            clear hrt
            go_wp2_with fail
            clear q0
            go_region_held3 (fun w' => w'.cell? ⟨br, 2, none⟩ = some (.int .i64 x) ∧ w'.cell? ⟨br, 3, none⟩ = some (.slice A P.length c))
              (first | exact K0.out | exact K1.out | exact K2.out | exact K3.out)
              ((first
                | (go_at_call 139; refine HLd.out.mono ?_; rintro e w' ⟨rfl, m1, rfl⟩; have STq := Lib.hid (STd.out.drewN m1); have Gq := Lib.hid (show (w5.drew.drewN m1).heap[w.heap.size]? = _ from Gd.out); have Bq := Lib.hid (bdDN Bd.out m1); generalize w5.drew.drewN m1 = wq at *; have K1 := Lib.hid (And.intro STq.out.c2 STq.out.c3))
                | (go_at_call 90; refine (HSu.out wq (Rd.of_own STq.out.own)).mono ?_; rintro e w7 ⟨A7, c7, rfl, hc7, hr7, hb⟩; have HC7 := Lib.hid hc7; have R7 := Lib.hid hr7; have ST7 := Lib.hid (STq.out.up hb); have G7 := Lib.hid ((hb.block w.heap.size (Nat.lt_trans HBr.out (HLs.out _ STq.out))).trans Gq.out); have B7 := Lib.hid (Bq.out.trans (hb.mono Bq.out.size)); have K2 := Lib.hid (And.intro ST7.out.c2 ST7.out.c3); clear hb hc7 hr7)
                | (go_at_call 89; refine (HRo.out A7 c7 w7 HC7.out R7.out).mono ?_; rintro e w' ⟨rfl, m2, rfl⟩; have ST8 := Lib.hid (ST7.out.drewN m2); have G8 := Lib.hid (show (w7.drewN m2).heap[w.heap.size]? = _ from G7.out); have B8 := Lib.hid (bdDN B7.out m2); generalize w7.drewN m2 = w8 at *; have K3 := Lib.hid (And.intro ST8.out.c2 ST8.out.c3))
                | fail))
            all_goals (
              obtain ⟨⟨d0, f0⟩, ⟨d1, f1⟩, ⟨d2, f2⟩, ⟨d3, f3⟩, ⟨d4, f4⟩, HR, HGr⟩ := put5 G8.out (.bool false) (.int .i64 0) (.int .i64 0) (.slice none 0 0) (.string ⟨#[]⟩)
              have BZ := Lib.hid (B8.out.grown HGr.out B8.out.size fun q hq => by injection hq with hq; omega)
              clear HGr
              go_wp2_with fail
              (try simp only [Exit.inBlock, Exit.then])
              refine bodyPost_ret (v := .tuple #[rdgV false 0 0 none 0 0 ⟨#[]⟩, .int .i64 7]) (results_row_tmp (p := 2) (u := 3) rfl _ _ w.heap.size 111 _ _ _ rfl HR.out Tryd.underlying111 rfl sizeReading) rfl ?_
              exact ⟨BZ.out, .inl ⟨by rw [HE7.out]; decide, by rw [HE7.out]⟩⟩)
    · have hln := lnO_len hl
      have HLen := Lib.hid (show r.length < rr.length by omega)
      have HR9 := Lib.hid (show r.length ≤ 9000 by have := H9.out; omega)
      have hh := hdO_some.1 hd
      have hfc : canon n' x' = f := hh.2.2.symm
      rcases SD.out with ⟨rfl, rfl, rfl, rfl, rfl⟩ | ⟨rfl, r0, hH, h64, hx, hPn, hP60, htk⟩
      · have HH := Lib.hid (rdH_some hl hd)
        have HTa := Lib.hid (take_first (br + 1) br 0 0 A c [] rr n' x' w3 ST3.out)
        have HC := Lib.hid hh
        clear hl hp hd hh hfc hln
        go_wp2_with fail
        refine HTa.out.mono ?_
        rintro e w5 ⟨rfl, h2, h3⟩
        have BT := Lib.hid h3
        have ST5 := Lib.hid h2
        have G5 := Lib.hid ((h3.block w.heap.size HBr.out).trans G4.out)
        have B5 := Lib.hid (B4.out.trans (h3.mono (Nat.le_of_lt HBr.out)))
        clear h2 h3
        have ST6 := Lib.hid (ST5.out.rest r)
        have p4 := ST5.out.c4
        have pf4 := blk_free ST5.out.hb 4
        have HM := Lib.hid (show rsz br (w5.setCell ⟨br, 4, none⟩ (.string (sL r))) < rsz br wr by rw [ST6.out.1.rsz, HRs.out]; exact HLen.out)
        have T6 := Lib.hid (show Tb (w5.setCell ⟨br, 4, none⟩ (.string (sL r))) from T4.out.upB (BT.out.trans ST6.out.2) HB6.out)
        go_wp2_with fail
        go_roundw
        case rel => exact ⟨true, n', x', A, c, [], r, ST6.out.1, .inr ⟨rfl, r, HH.out, HC.out.1, HC.out.2.1, by simp, by simp, by simp⟩, HR9.out, T6.out, (ST6.out.2.block w.heap.size HBr.out).trans G5.out, B5.out.trans (ST6.out.2.mono (Nat.le_of_lt HBr.out))⟩
        case measure => exact HM.out
      · have HH := Lib.hid hH
        have H64 := Lib.hid h64
        have HP60 := Lib.hid hP60
        have HPn := Lib.hid hPn
        have HTK := Lib.hid htk
        have HX := Lib.hid hx
        have HL := Lib.hid hl
        have HPg := Lib.hid hp
        have HF60 := Lib.hid (show f.length ≤ 60 by
          unfold pgl at hp
          simp only [Bool.and_eq_true, decide_eq_true_eq] at hp
          exact hp.1.2)
        have HTa := Lib.hid (take_head (br + 1) br n x A c P rr n' x' w3 h64 ST3.out (by omega) T4.out hh.1 hh.2.1)
        rw [hfc] at HTa
        clear hd hh hfc
        unfold AdPost at HTa
        clear hH h64 hx hPn hP60 htk hl hp hln
        go_wp2_with fail
        refine HTa.out.mono ?_
        rintro e w5 (⟨h1, rfl, ⟨A', c', h2⟩, h3⟩ | ⟨h1, rfl, h2, h3⟩)
        · have BT := Lib.hid h3
          have ST5 := Lib.hid h2
          have G5 := Lib.hid ((h3.block w.heap.size HBr.out).trans G4.out)
          have B5 := Lib.hid (B4.out.trans (h3.mono (Nat.le_of_lt HBr.out)))
          have HLT := Lib.hid h1
          clear h1 h2 h3
          have HP2 := Lib.hid (show ∀ l ∈ P ++ [f], l.length ≤ 60 from fun l hl => by
            rcases List.mem_append.1 hl with hl | hl
            · exact HP60.out l hl
            · rw [List.mem_singleton.1 hl]; exact HF60.out)
          have ST6 := Lib.hid (ST5.out.rest r)
          have p4 := ST5.out.c4
          have pf4 := blk_free ST5.out.hb 4
          have HM := Lib.hid (show rsz br (w5.setCell ⟨br, 4, none⟩ (.string (sL r))) < rsz br wr by rw [ST6.out.1.rsz, HRs.out]; exact HLen.out)
          have T6 := Lib.hid (show Tb (w5.setCell ⟨br, 4, none⟩ (.string (sL r))) from T4.out.upB (BT.out.trans ST6.out.2) HB6.out)
          go_wp2_with fail
          go_roundw
          case rel => exact ⟨true, n, x, A', c', P ++ [f], r, ST6.out.1, .inr ⟨rfl, r0, HH.out, H64.out, HX.out, by rw [List.length_append]; exact HLT.out, HP2.out, by rw [List.length_append]; exact tk_step HTK.out HLT.out HL.out HPg.out⟩, HR9.out, T6.out, (ST6.out.2.block w.heap.size HBr.out).trans G5.out, B5.out.trans (ST6.out.2.mono (Nat.le_of_lt HBr.out))⟩
          case measure => exact HM.out
        · have BT := Lib.hid h3
          have ST5 := Lib.hid h2
          have G5 := Lib.hid ((h3.block w.heap.size HBr.out).trans G4.out)
          have B5 := Lib.hid (B4.out.trans (h3.mono (Nat.le_of_lt HBr.out)))
          have HTK2 := Lib.hid (show tk n r0 = (P, rr) by rw [HTK.out, show n - P.length = 0 by have := HPn.out; omega]; simp [tk])
          clear h1 h2 h3
          have q0 := ST5.out.c0
          have HLk := Lib.hid (fun m => lacks_any br n P.length c A (w5.drewN m) ST5.out.c1 ST5.out.c3)
          by_cases hlt : P.length < n
          · have HF := Lib.hid (rd_some HH.out HTK2.out (by omega))
            rw [decide_eq_true hlt] at HLk
            clear hlt
            go_wp2_with fail
            go_quiet ((go_at_call 139; with_reducible exact qmB (HLk.out _)))
            clear q0
            obtain ⟨mq, hmq⟩ : ∃ mq, mq = nq := ⟨_, rfl⟩
            have STq := Lib.hid (ST5.out.drewN nq)
            have Gq := Lib.hid (show (w5.drewN nq).heap[w.heap.size]? = _ from G5.out)
            have Bq := Lib.hid (bdDN B5.out nq)
            clear hmq
            generalize w5.drewN nq = wq at *
            have HSv := Lib.hid STq.out
            obtain ⟨⟨d0, f0⟩, ⟨d1, f1⟩, ⟨d2, f2⟩, ⟨d3, f3⟩, ⟨d4, f4⟩, HR, HGr⟩ := put5 Gq.out (.bool true) (.int .i64 n) (.int .i64 x) (.slice A P.length c) (.string (sL rr))
            have BZ := Lib.hid (Bq.out.grown HGr.out Bq.out.size fun q hq => by injection hq with hq; omega)
            have OWz := Lib.hid (STq.out.own.kept HGr.out (.inr (fun hq => by have := (own_ge' STq.out.own _ hq); have := HBr.out; omega)))
            have l0 := STq.out.c0
            have l1 := STq.out.c1
            have l2 := STq.out.c2
            have l3 := STq.out.c3
            have l4 := STq.out.c4
            clear HGr
            go_wp2_with fail
            (try simp only [Exit.inBlock, Exit.then])
            refine bodyPost_ret (v := .tuple #[rdgV true n x A P.length c (sL rr), .int .i64 0]) (results_row_tmp (p := 2) (u := 3) rfl _ _ w.heap.size 111 _ _ _ rfl HR.out Tryd.underlying111 rfl sizeReading) rfl ?_
            refine ⟨BZ.out, .inr ⟨HF.out.1, n, x, A, c, HF.out.2.2.1, H64.out, by rw [HF.out.2.1, HF.out.2.2.2], ?_, ?_⟩⟩
            · rw [HF.out.2.1]; obtain ⟨_, _, h, hh⟩ := own_form HSv.out.own; cases h; exact hh
            · rw [HF.out.2.1]; exact Rd.of_own OWz.out
          · have hPe : P.length = n := by have := HPn.out; omega
            rw [decide_eq_false hlt] at HLk
            have HSz := Lib.hid (show Sz (P.map sL) from fun s hs => by
              obtain ⟨l, hl, rfl⟩ := List.mem_map.1 hs
              have := HP60.out l hl
              rw [sL_size]; omega)
            have h64P : P.length ≤ 64 := by have := H64.out; omega
            have HLd := Lib.hid (lacks_any br n P.length c A w5.drew ST5.out.c1 ST5.out.c3)
            rw [decide_eq_false hlt] at HLd
            have HSu := Lib.hid (fun w' (hr : Rd w' w'.heap.size A (txts (P.map sL))) => sumsOf_any A c (P.map sL) w' hr HSz.out (by rw [List.length_map]; exact h64P))
            rw [List.length_map] at HSu
            have HRo := Lib.hid (fun A2 c2 w2 h1 h2 => rootOf_any P.length (smsL (P.map sL)) A2 c2 w2 (by rw [smsL_len, List.length_map]) h64P (smsL_sm _) h1 h2)
            have STd := Lib.hid (ST5.out.up ((Below.refl w5.heap.size w5).drew))
            have Gd := Lib.hid (show w5.drew.heap[w.heap.size]? = _ from G5.out)
            have Bd := Lib.hid (B5.out.drew)
            have HLs := Lib.hid (show ∀ w' : World, RdSt w' (br + 1) br true n x A c P rr → br < w'.heap.size from fun w' h => Nat.lt_of_lt_of_le (Nat.lt_succ_self _) h.le)
            have K0 := Lib.hid (And.intro STd.out.c2 STd.out.c3)
            have HPe := Lib.hid hPe
            clear hlt hPe h64P HLk
            by_cases hrt : rt (smsL (P.map sL)) = (x : Int)
            · have HF := Lib.hid (rd_some HH.out HTK2.out (by intro h; exact h.2 hrt))
              rw [hrt] at HRo
              have z1 : ((x : Int) != (x : Int)) = false := by simp
              have z1' : (x != x) = false := by simp
              clear hrt
              go_wp2_with fail
              clear q0
              go_region_held3 (fun w' => w'.cell? ⟨br, 2, none⟩ = some (.int .i64 x) ∧ w'.cell? ⟨br, 3, none⟩ = some (.slice A P.length c))
                (first | exact K0.out | exact K1.out | exact K2.out | exact K3.out)
                ((first
                  | (go_at_call 139; refine HLd.out.mono ?_; rintro e w' ⟨rfl, m1, rfl⟩; have STq := Lib.hid (STd.out.drewN m1); have Gq := Lib.hid (show (w5.drew.drewN m1).heap[w.heap.size]? = _ from Gd.out); have Bq := Lib.hid (bdDN Bd.out m1); generalize w5.drew.drewN m1 = wq at *; have K1 := Lib.hid (And.intro STq.out.c2 STq.out.c3))
                  | (go_at_call 90; refine (HSu.out wq (Rd.of_own STq.out.own)).mono ?_; rintro e w7 ⟨A7, c7, rfl, hc7, hr7, hb⟩; have HC7 := Lib.hid hc7; have R7 := Lib.hid hr7; have ST7 := Lib.hid (STq.out.up hb); have G7 := Lib.hid ((hb.block w.heap.size (Nat.lt_trans HBr.out (HLs.out _ STq.out))).trans Gq.out); have B7 := Lib.hid (Bq.out.trans (hb.mono Bq.out.size)); have K2 := Lib.hid (And.intro ST7.out.c2 ST7.out.c3); clear hb hc7 hr7)
                  | (go_at_call 89; refine (HRo.out A7 c7 w7 HC7.out R7.out).mono ?_; rintro e w' ⟨rfl, m2, rfl⟩; have ST8 := Lib.hid (ST7.out.drewN m2); have G8 := Lib.hid (show (w7.drewN m2).heap[w.heap.size]? = _ from G7.out); have B8 := Lib.hid (bdDN B7.out m2); generalize w7.drewN m2 = w8 at *; have K3 := Lib.hid (And.intro ST8.out.c2 ST8.out.c3))
                  | fail))
              all_goals (
                have HSv := Lib.hid ST8.out
                obtain ⟨⟨d0, f0⟩, ⟨d1, f1⟩, ⟨d2, f2⟩, ⟨d3, f3⟩, ⟨d4, f4⟩, HR, HGr⟩ := put5 G8.out (.bool true) (.int .i64 n) (.int .i64 x) (.slice A P.length c) (.string (sL rr))
                have BZ := Lib.hid (B8.out.grown HGr.out B8.out.size fun q hq => by injection hq with hq; omega)
                have OWz := Lib.hid (ST8.out.own.kept HGr.out (.inr (fun hq => by have := (own_ge' ST8.out.own _ hq); have := HBr.out; omega)))
                have l0 := ST8.out.c0
                have l1 := ST8.out.c1
                have l2 := ST8.out.c2
                have l3 := ST8.out.c3
                have l4 := ST8.out.c4
                clear HGr
                go_wp2_with fail
                (try simp only [Exit.inBlock, Exit.then])
                refine bodyPost_ret (v := .tuple #[rdgV true n x A P.length c (sL rr), .int .i64 0]) (results_row_tmp (p := 2) (u := 3) rfl _ _ w.heap.size 111 _ _ _ rfl HR.out Tryd.underlying111 rfl sizeReading) rfl ?_
                refine ⟨BZ.out, .inr ⟨HF.out.1, n, x, A, c, HF.out.2.2.1, H64.out, by rw [HF.out.2.1, HF.out.2.2.2], ?_, ?_⟩⟩
                · rw [HF.out.2.1]; obtain ⟨_, _, h, hh⟩ := own_form HSv.out.own; cases h; exact hh
                · rw [HF.out.2.1]; exact Rd.of_own OWz.out)
            · have HE7 := Lib.hid (rd_seven HH.out HTK2.out ⟨HPe.out, hrt⟩)
              have z1 : (rt (smsL (P.map sL)) != (x : Int)) = true := by simpa using hrt
              generalize rt (smsL (P.map sL)) = yv at *
              clear hrt
              go_wp2_with fail
              clear q0
              go_region_held3 (fun w' => w'.cell? ⟨br, 2, none⟩ = some (.int .i64 x) ∧ w'.cell? ⟨br, 3, none⟩ = some (.slice A P.length c))
                (first | exact K0.out | exact K1.out | exact K2.out | exact K3.out)
                ((first
                  | (go_at_call 139; refine HLd.out.mono ?_; rintro e w' ⟨rfl, m1, rfl⟩; have STq := Lib.hid (STd.out.drewN m1); have Gq := Lib.hid (show (w5.drew.drewN m1).heap[w.heap.size]? = _ from Gd.out); have Bq := Lib.hid (bdDN Bd.out m1); generalize w5.drew.drewN m1 = wq at *; have K1 := Lib.hid (And.intro STq.out.c2 STq.out.c3))
                  | (go_at_call 90; refine (HSu.out wq (Rd.of_own STq.out.own)).mono ?_; rintro e w7 ⟨A7, c7, rfl, hc7, hr7, hb⟩; have HC7 := Lib.hid hc7; have R7 := Lib.hid hr7; have ST7 := Lib.hid (STq.out.up hb); have G7 := Lib.hid ((hb.block w.heap.size (Nat.lt_trans HBr.out (HLs.out _ STq.out))).trans Gq.out); have B7 := Lib.hid (Bq.out.trans (hb.mono Bq.out.size)); have K2 := Lib.hid (And.intro ST7.out.c2 ST7.out.c3); clear hb hc7 hr7)
                  | (go_at_call 89; refine (HRo.out A7 c7 w7 HC7.out R7.out).mono ?_; rintro e w' ⟨rfl, m2, rfl⟩; have ST8 := Lib.hid (ST7.out.drewN m2); have G8 := Lib.hid (show (w7.drewN m2).heap[w.heap.size]? = _ from G7.out); have B8 := Lib.hid (bdDN B7.out m2); generalize w7.drewN m2 = w8 at *; have K3 := Lib.hid (And.intro ST8.out.c2 ST8.out.c3))
                  | fail))
              all_goals (
                obtain ⟨⟨d0, f0⟩, ⟨d1, f1⟩, ⟨d2, f2⟩, ⟨d3, f3⟩, ⟨d4, f4⟩, HR, HGr⟩ := put5 G8.out (.bool false) (.int .i64 0) (.int .i64 0) (.slice none 0 0) (.string ⟨#[]⟩)
                have BZ := Lib.hid (B8.out.grown HGr.out B8.out.size fun q hq => by injection hq with hq; omega)
                clear HGr
                go_wp2_with fail
                (try simp only [Exit.inBlock, Exit.then])
                refine bodyPost_ret (v := .tuple #[rdgV false 0 0 none 0 0 ⟨#[]⟩, .int .i64 7]) (results_row_tmp (p := 2) (u := 3) rfl _ _ w.heap.size 111 _ _ _ rfl HR.out Tryd.underlying111 rfl sizeReading) rfl ?_
                exact ⟨BZ.out, .inl ⟨by rw [HE7.out]; decide, by rw [HE7.out]⟩⟩)
    · have hln := lnO_len hl
      have HLen := Lib.hid (show r.length < rr.length by omega)
      have HR9 := Lib.hid (show r.length ≤ 9000 by have := H9.out; omega)
      rcases SD.out with ⟨rfl, rfl, rfl, rfl, rfl⟩ | ⟨rfl, r0, hH, h64, hx, hPn, hP60, htk⟩
      · have HN := Lib.hid (rdH_hd hl hd)
        have HTa := Lib.hid (take_sheet (br + 1) br 0 0 false A c [] rr f w3 (by omega) ST3.out (by simp))
        unfold AdPost at HTa
        clear hl hp hd hln
        go_wp2_with fail
        refine HTa.out.mono ?_
        rintro e w5 (⟨h1, rfl, h2, h3⟩ | ⟨h1, rfl, h2, h3⟩)
        · exact absurd h1 (by simp)
        · have BT := Lib.hid h3
          have ST5 := Lib.hid h2
          have G5 := Lib.hid ((h3.block w.heap.size HBr.out).trans G4.out)
          have B5 := Lib.hid (B4.out.trans (h3.mono (Nat.le_of_lt HBr.out)))
          have q0 := h2.c0
          clear h1 h2 h3
          obtain ⟨⟨d0, f0⟩, ⟨d1, f1⟩, ⟨d2, f2⟩, ⟨d3, f3⟩, ⟨d4, f4⟩, HR, HGr⟩ := put5 G5.out (.bool false) (.int .i64 0) (.int .i64 0) (.slice none 0 0) (.string ⟨#[]⟩)
          have BZ := Lib.hid (B5.out.grown HGr.out B5.out.size fun q hq => by injection hq with hq; omega)
          clear HGr
          go_wp2_with fail
          (try simp only [Exit.inBlock, Exit.then])
          refine bodyPost_ret (v := .tuple #[rdgV false 0 0 none 0 0 ⟨#[]⟩, .int .i64 2]) (results_row_tmp (p := 2) (u := 3) rfl _ _ w.heap.size 111 _ _ _ rfl HR.out Tryd.underlying111 rfl sizeReading) rfl ?_
          exact ⟨BZ.out, .inl ⟨by rw [rd_none HN.out]; decide, by rw [rd_none HN.out]⟩⟩
      · have HH := Lib.hid hH
        have H64 := Lib.hid h64
        have HP60 := Lib.hid hP60
        have HPn := Lib.hid hPn
        have HTK := Lib.hid htk
        have HX := Lib.hid hx
        have HL := Lib.hid hl
        have HPg := Lib.hid hp
        have HF60 := Lib.hid (show f.length ≤ 60 by
          unfold pgl at hp
          simp only [Bool.and_eq_true, decide_eq_true_eq] at hp
          exact hp.1.2)
        have HTa := Lib.hid (take_sheet (br + 1) br n x true A c P rr f w3 h64 ST3.out (by omega))
        clear hd
        unfold AdPost at HTa
        clear hH h64 hx hPn hP60 htk hl hp hln
        go_wp2_with fail
        refine HTa.out.mono ?_
        rintro e w5 (⟨h1, rfl, ⟨A', c', h2⟩, h3⟩ | ⟨h1, rfl, h2, h3⟩)
        · have BT := Lib.hid h3
          have ST5 := Lib.hid h2
          have G5 := Lib.hid ((h3.block w.heap.size HBr.out).trans G4.out)
          have B5 := Lib.hid (B4.out.trans (h3.mono (Nat.le_of_lt HBr.out)))
          have HLT := Lib.hid h1
          clear h1 h2 h3
          have HP2 := Lib.hid (show ∀ l ∈ P ++ [f], l.length ≤ 60 from fun l hl => by
            rcases List.mem_append.1 hl with hl | hl
            · exact HP60.out l hl
            · rw [List.mem_singleton.1 hl]; exact HF60.out)
          have ST6 := Lib.hid (ST5.out.rest r)
          have p4 := ST5.out.c4
          have pf4 := blk_free ST5.out.hb 4
          have HM := Lib.hid (show rsz br (w5.setCell ⟨br, 4, none⟩ (.string (sL r))) < rsz br wr by rw [ST6.out.1.rsz, HRs.out]; exact HLen.out)
          have T6 := Lib.hid (show Tb (w5.setCell ⟨br, 4, none⟩ (.string (sL r))) from T4.out.upB (BT.out.trans ST6.out.2) HB6.out)
          go_wp2_with fail
          go_roundw
          case rel => exact ⟨true, n, x, A', c', P ++ [f], r, ST6.out.1, .inr ⟨rfl, r0, HH.out, H64.out, HX.out, by rw [List.length_append]; exact HLT.out, HP2.out, by rw [List.length_append]; exact tk_step HTK.out HLT.out HL.out HPg.out⟩, HR9.out, T6.out, (ST6.out.2.block w.heap.size HBr.out).trans G5.out, B5.out.trans (ST6.out.2.mono (Nat.le_of_lt HBr.out))⟩
          case measure => exact HM.out
        · have BT := Lib.hid h3
          have ST5 := Lib.hid h2
          have G5 := Lib.hid ((h3.block w.heap.size HBr.out).trans G4.out)
          have B5 := Lib.hid (B4.out.trans (h3.mono (Nat.le_of_lt HBr.out)))
          have HTK2 := Lib.hid (show tk n r0 = (P, rr) by rw [HTK.out, show n - P.length = 0 by have := HPn.out; omega]; simp [tk])
          clear h1 h2 h3
          have q0 := ST5.out.c0
          have HLk := Lib.hid (fun m => lacks_any br n P.length c A (w5.drewN m) ST5.out.c1 ST5.out.c3)
          by_cases hlt : P.length < n
          · have HF := Lib.hid (rd_some HH.out HTK2.out (by omega))
            rw [decide_eq_true hlt] at HLk
            clear hlt
            go_wp2_with fail
            go_quiet ((go_at_call 139; with_reducible exact qmB (HLk.out _)))
            clear q0
            obtain ⟨mq, hmq⟩ : ∃ mq, mq = nq := ⟨_, rfl⟩
            have STq := Lib.hid (ST5.out.drewN nq)
            have Gq := Lib.hid (show (w5.drewN nq).heap[w.heap.size]? = _ from G5.out)
            have Bq := Lib.hid (bdDN B5.out nq)
            clear hmq
            generalize w5.drewN nq = wq at *
            have HSv := Lib.hid STq.out
            obtain ⟨⟨d0, f0⟩, ⟨d1, f1⟩, ⟨d2, f2⟩, ⟨d3, f3⟩, ⟨d4, f4⟩, HR, HGr⟩ := put5 Gq.out (.bool true) (.int .i64 n) (.int .i64 x) (.slice A P.length c) (.string (sL rr))
            have BZ := Lib.hid (Bq.out.grown HGr.out Bq.out.size fun q hq => by injection hq with hq; omega)
            have OWz := Lib.hid (STq.out.own.kept HGr.out (.inr (fun hq => by have := (own_ge' STq.out.own _ hq); have := HBr.out; omega)))
            have l0 := STq.out.c0
            have l1 := STq.out.c1
            have l2 := STq.out.c2
            have l3 := STq.out.c3
            have l4 := STq.out.c4
            clear HGr
            go_wp2_with fail
            (try simp only [Exit.inBlock, Exit.then])
            refine bodyPost_ret (v := .tuple #[rdgV true n x A P.length c (sL rr), .int .i64 0]) (results_row_tmp (p := 2) (u := 3) rfl _ _ w.heap.size 111 _ _ _ rfl HR.out Tryd.underlying111 rfl sizeReading) rfl ?_
            refine ⟨BZ.out, .inr ⟨HF.out.1, n, x, A, c, HF.out.2.2.1, H64.out, by rw [HF.out.2.1, HF.out.2.2.2], ?_, ?_⟩⟩
            · rw [HF.out.2.1]; obtain ⟨_, _, h, hh⟩ := own_form HSv.out.own; cases h; exact hh
            · rw [HF.out.2.1]; exact Rd.of_own OWz.out
          · have hPe : P.length = n := by have := HPn.out; omega
            rw [decide_eq_false hlt] at HLk
            have HSz := Lib.hid (show Sz (P.map sL) from fun s hs => by
              obtain ⟨l, hl, rfl⟩ := List.mem_map.1 hs
              have := HP60.out l hl
              rw [sL_size]; omega)
            have h64P : P.length ≤ 64 := by have := H64.out; omega
            have HLd := Lib.hid (lacks_any br n P.length c A w5.drew ST5.out.c1 ST5.out.c3)
            rw [decide_eq_false hlt] at HLd
            have HSu := Lib.hid (fun w' (hr : Rd w' w'.heap.size A (txts (P.map sL))) => sumsOf_any A c (P.map sL) w' hr HSz.out (by rw [List.length_map]; exact h64P))
            rw [List.length_map] at HSu
            have HRo := Lib.hid (fun A2 c2 w2 h1 h2 => rootOf_any P.length (smsL (P.map sL)) A2 c2 w2 (by rw [smsL_len, List.length_map]) h64P (smsL_sm _) h1 h2)
            have STd := Lib.hid (ST5.out.up ((Below.refl w5.heap.size w5).drew))
            have Gd := Lib.hid (show w5.drew.heap[w.heap.size]? = _ from G5.out)
            have Bd := Lib.hid (B5.out.drew)
            have HLs := Lib.hid (show ∀ w' : World, RdSt w' (br + 1) br true n x A c P rr → br < w'.heap.size from fun w' h => Nat.lt_of_lt_of_le (Nat.lt_succ_self _) h.le)
            have K0 := Lib.hid (And.intro STd.out.c2 STd.out.c3)
            have HPe := Lib.hid hPe
            clear hlt hPe h64P HLk
            by_cases hrt : rt (smsL (P.map sL)) = (x : Int)
            · have HF := Lib.hid (rd_some HH.out HTK2.out (by intro h; exact h.2 hrt))
              rw [hrt] at HRo
              have z1 : ((x : Int) != (x : Int)) = false := by simp
              have z1' : (x != x) = false := by simp
              clear hrt
              go_wp2_with fail
              clear q0
              go_region_held3 (fun w' => w'.cell? ⟨br, 2, none⟩ = some (.int .i64 x) ∧ w'.cell? ⟨br, 3, none⟩ = some (.slice A P.length c))
                (first | exact K0.out | exact K1.out | exact K2.out | exact K3.out)
                ((first
                  | (go_at_call 139; refine HLd.out.mono ?_; rintro e w' ⟨rfl, m1, rfl⟩; have STq := Lib.hid (STd.out.drewN m1); have Gq := Lib.hid (show (w5.drew.drewN m1).heap[w.heap.size]? = _ from Gd.out); have Bq := Lib.hid (bdDN Bd.out m1); generalize w5.drew.drewN m1 = wq at *; have K1 := Lib.hid (And.intro STq.out.c2 STq.out.c3))
                  | (go_at_call 90; refine (HSu.out wq (Rd.of_own STq.out.own)).mono ?_; rintro e w7 ⟨A7, c7, rfl, hc7, hr7, hb⟩; have HC7 := Lib.hid hc7; have R7 := Lib.hid hr7; have ST7 := Lib.hid (STq.out.up hb); have G7 := Lib.hid ((hb.block w.heap.size (Nat.lt_trans HBr.out (HLs.out _ STq.out))).trans Gq.out); have B7 := Lib.hid (Bq.out.trans (hb.mono Bq.out.size)); have K2 := Lib.hid (And.intro ST7.out.c2 ST7.out.c3); clear hb hc7 hr7)
                  | (go_at_call 89; refine (HRo.out A7 c7 w7 HC7.out R7.out).mono ?_; rintro e w' ⟨rfl, m2, rfl⟩; have ST8 := Lib.hid (ST7.out.drewN m2); have G8 := Lib.hid (show (w7.drewN m2).heap[w.heap.size]? = _ from G7.out); have B8 := Lib.hid (bdDN B7.out m2); generalize w7.drewN m2 = w8 at *; have K3 := Lib.hid (And.intro ST8.out.c2 ST8.out.c3))
                  | fail))
              all_goals (
                have HSv := Lib.hid ST8.out
                obtain ⟨⟨d0, f0⟩, ⟨d1, f1⟩, ⟨d2, f2⟩, ⟨d3, f3⟩, ⟨d4, f4⟩, HR, HGr⟩ := put5 G8.out (.bool true) (.int .i64 n) (.int .i64 x) (.slice A P.length c) (.string (sL rr))
                have BZ := Lib.hid (B8.out.grown HGr.out B8.out.size fun q hq => by injection hq with hq; omega)
                have OWz := Lib.hid (ST8.out.own.kept HGr.out (.inr (fun hq => by have := (own_ge' ST8.out.own _ hq); have := HBr.out; omega)))
                have l0 := ST8.out.c0
                have l1 := ST8.out.c1
                have l2 := ST8.out.c2
                have l3 := ST8.out.c3
                have l4 := ST8.out.c4
                clear HGr
                go_wp2_with fail
                (try simp only [Exit.inBlock, Exit.then])
                refine bodyPost_ret (v := .tuple #[rdgV true n x A P.length c (sL rr), .int .i64 0]) (results_row_tmp (p := 2) (u := 3) rfl _ _ w.heap.size 111 _ _ _ rfl HR.out Tryd.underlying111 rfl sizeReading) rfl ?_
                refine ⟨BZ.out, .inr ⟨HF.out.1, n, x, A, c, HF.out.2.2.1, H64.out, by rw [HF.out.2.1, HF.out.2.2.2], ?_, ?_⟩⟩
                · rw [HF.out.2.1]; obtain ⟨_, _, h, hh⟩ := own_form HSv.out.own; cases h; exact hh
                · rw [HF.out.2.1]; exact Rd.of_own OWz.out)
            · have HE7 := Lib.hid (rd_seven HH.out HTK2.out ⟨HPe.out, hrt⟩)
              have z1 : (rt (smsL (P.map sL)) != (x : Int)) = true := by simpa using hrt
              generalize rt (smsL (P.map sL)) = yv at *
              clear hrt
              go_wp2_with fail
              clear q0
              go_region_held3 (fun w' => w'.cell? ⟨br, 2, none⟩ = some (.int .i64 x) ∧ w'.cell? ⟨br, 3, none⟩ = some (.slice A P.length c))
                (first | exact K0.out | exact K1.out | exact K2.out | exact K3.out)
                ((first
                  | (go_at_call 139; refine HLd.out.mono ?_; rintro e w' ⟨rfl, m1, rfl⟩; have STq := Lib.hid (STd.out.drewN m1); have Gq := Lib.hid (show (w5.drew.drewN m1).heap[w.heap.size]? = _ from Gd.out); have Bq := Lib.hid (bdDN Bd.out m1); generalize w5.drew.drewN m1 = wq at *; have K1 := Lib.hid (And.intro STq.out.c2 STq.out.c3))
                  | (go_at_call 90; refine (HSu.out wq (Rd.of_own STq.out.own)).mono ?_; rintro e w7 ⟨A7, c7, rfl, hc7, hr7, hb⟩; have HC7 := Lib.hid hc7; have R7 := Lib.hid hr7; have ST7 := Lib.hid (STq.out.up hb); have G7 := Lib.hid ((hb.block w.heap.size (Nat.lt_trans HBr.out (HLs.out _ STq.out))).trans Gq.out); have B7 := Lib.hid (Bq.out.trans (hb.mono Bq.out.size)); have K2 := Lib.hid (And.intro ST7.out.c2 ST7.out.c3); clear hb hc7 hr7)
                  | (go_at_call 89; refine (HRo.out A7 c7 w7 HC7.out R7.out).mono ?_; rintro e w' ⟨rfl, m2, rfl⟩; have ST8 := Lib.hid (ST7.out.drewN m2); have G8 := Lib.hid (show (w7.drewN m2).heap[w.heap.size]? = _ from G7.out); have B8 := Lib.hid (bdDN B7.out m2); generalize w7.drewN m2 = w8 at *; have K3 := Lib.hid (And.intro ST8.out.c2 ST8.out.c3))
                  | fail))
              all_goals (
                obtain ⟨⟨d0, f0⟩, ⟨d1, f1⟩, ⟨d2, f2⟩, ⟨d3, f3⟩, ⟨d4, f4⟩, HR, HGr⟩ := put5 G8.out (.bool false) (.int .i64 0) (.int .i64 0) (.slice none 0 0) (.string ⟨#[]⟩)
                have BZ := Lib.hid (B8.out.grown HGr.out B8.out.size fun q hq => by injection hq with hq; omega)
                clear HGr
                go_wp2_with fail
                (try simp only [Exit.inBlock, Exit.then])
                refine bodyPost_ret (v := .tuple #[rdgV false 0 0 none 0 0 ⟨#[]⟩, .int .i64 7]) (results_row_tmp (p := 2) (u := 3) rfl _ _ w.heap.size 111 _ _ _ rfl HR.out Tryd.underlying111 rfl sizeReading) rfl ?_
                exact ⟨BZ.out, .inl ⟨by rw [HE7.out]; decide, by rw [HE7.out]⟩⟩)
end Go.Proofs.YtoenecgjiejljaaDoor

/-
  Plans: the walks of Plan, Flee of package lure. Conditions: the game and the set can be read.
-/
import Derived.Test.YtibcjkpfpiamkaaLu23
namespace Go.Proofs.Ytibcjkpfpiamkaa
open Go.RowKit
set_option linter.unusedVariables false

theorem bset {B b : Nat} {w w' : World} (h : Below B w w') (hB : B ≤ b) (i : Nat) (v : Value) : Below B w (w'.setCell ⟨b, i, none⟩ v) := h.trans (((Only.refl b w').set i v).below hB)
def plaL (G : Gm) (L : List Int) : List Int := if askE G L = 0 then plL G 0 (suP (rkL G (gatN L))) else []
def fleL (G : Gm) (L : List Int) : List Int := if askE G L = 0 then plL G 1 (suF (rkL G (gatN L))) else []
set_option maxRecDepth 4000 in
set_option maxHeartbeats 3200000 in
theorem Plan_any (g : Gv) (A : Option Addr) (c : Nat) (L : List Int) (w : World) (hr : RdG w w.heap.size g) (hf : Gfit g) (hq : Rd w w.heap.size A (ints L)) (hn : L.length ≤ 9223372036854775807) :
    Calls Try.prog 35 #[g.v, .slice A L.length c] w (MadeIE w (plaL g.G L) (askE g.G L)) := by
  obtain ⟨W, hW, p0, p1, hz, hb, hr1⟩ := box_game w g 25 hr
  have R1 := Lib.hid (hq.up hb)
  have B0 := Lib.hid hb
  obtain ⟨W2, hW2, hb2, HC⟩ := ask_one g A c L W hr1 hf R1.out hn
  have B2 := Lib.hid (hb.trans (hb2.mono hb.size))
  have HCh := Lib.hid HC
  have RG2 := Lib.hid (hr1.up hb2)
  have R2 := Lib.hid (R1.out.up hb2)
  have q0 := cell_keep p0 hb2 hz
  have q1 := cell_keep p1 hb2 hz
  have hz2 : w.heap.size < W2.heap.size := Nat.lt_of_lt_of_le hz hb2.size
  unfold plaL
  by_cases hE : askE g.G L = 0
  · rw [if_pos hE, hE]
    rw [hE] at HCh
    obtain ⟨hG0, hs⟩ := askE_zero hE
    have h16 : g.G.own.length ≤ 16 := (gE_zero hG0).le
    have hg : gatN L < 2 ^ g.G.own.length := gat_lt hs (by omega)
    have HG := Lib.hid (fun w h => gather_any A c L g.own.length w h hn hs (show ((g.own.length : Nat) : Int) ≤ 31 by have e : g.G.own = g.own := rfl; rw [e] at h16; omega))
    have HRk := Lib.hid (fun w h => ranksOf_any g (gatN L) w h hf hG0 hg)
    have hRl : (rkL g.G (gatN L)).length = g.own.length := rkL_len _ _
    have HPl := Lib.hid (fun br w h HS => planOfP_any g 0 br (suP (rkL g.G (gatN L))) w h hf hG0 HS)
    clear hr hf hq hn hb hr1 hb2 HC hE hG0 hs h16 hg
    unfold Gv.v at HCh HRk HPl ⊢
    generalize rkL g.G (gatN L) = RK at *
    generalize g.G = G at *
    obtain ⟨A0, c0, own, A1, c1, rs⟩ := g
    simp only at hW p0 p1 q0 q1 HCh HRk HPl hRl ⊢
    have HRl := Lib.hid hRl
    clear hRl
    go_enter Try.func35, Try.ntmps35
    go_wp2_with fail
    refine (HCh.out).mono ?_
    rintro e w3 ⟨rfl, hb⟩
    have B3 := Lib.hid (B2.out.trans (hb.mono B2.out.size))
    have RG3 := Lib.hid ((RG2.out.up hb).up (Below.refl w3.heap.size w3).drew)
    have R3 := Lib.hid (R2.out.up hb)
    have HK := Lib.hid (fun (w5 : World) (h : Below w3.heap.size w3 w5) => And.intro (cell_keep (cell_keep q0 hb hz2) h (Nat.lt_of_lt_of_le hz2 hb.size)) (cell_keep (cell_keep q1 hb hz2) h (Nat.lt_of_lt_of_le hz2 hb.size)))
    have HS0 := Lib.hid (HK.out w3.drew ((Below.refl _ w3).drew))
    have BD := Lib.hid ((Below.refl w3.heap.size w3).drew)
    have BA := Lib.hid (((Below.refl w3.heap.size w3).drew).alloc (Nat.le_refl _) (.cells #[.slice none 0 0] 22))
    have HSa := Lib.hid (HK.out _ BA.out)
    have RGa := Lib.hid (RG3.out.up ((Below.refl w3.drew.heap.size w3.drew).alloc (Nat.le_refl _) (.cells #[.slice none 0 0] 22)))
    have Ra := Lib.hid (show Rd (w3.drew.alloc (.cells #[.slice none 0 0] 22)) (w3.drew.alloc (.cells #[.slice none 0 0] 22)).heap.size A (ints L) from Rd.up (show Rd w3.drew w3.drew.heap.size A (ints L) from R3.out) ((Below.refl w3.drew.heap.size w3.drew).alloc (Nat.le_refl _) _))
    have hz3 : w.heap.size < w3.heap.size := Nat.lt_of_lt_of_le hz2 hb.size
    have ca : (w3.drew.alloc (.cells #[.slice none 0 0] 22)).heap[w3.heap.size]? = some (.cells #[.slice none 0 0] 22 (0, 0)) := heap_alloc_new w3.drew _
    have KA := Lib.hid ca
    have Z3 := Lib.hid hz3
    clear hb q0 q1 p0 p1 hW hW2 ca hz3
    go_wp2_with fail
    go_region_held3 (fun w' => w'.cell? ⟨w.heap.size, 0, none⟩ = some (.slice A0 own.length c0) ∧ w'.cell? ⟨w.heap.size, 1, none⟩ = some (.slice A1 rs.length c1))
      (first | exact HS0.out | exact HSa.out | exact SK.out | exact SKa.out | exact SKb.out | exact SKs.out | go_keep)
      ((first
        | (go_at_call 49; refine (HG.out w3.drew R3.out).mono ?_; rintro e wq ⟨rfl, rfl⟩)
        | (go_at_call 49; refine (HG.out _ Ra.out).mono ?_; rintro e wq ⟨rfl, rfl⟩)
        | (go_at_call 58; refine (HRk.out w3.drew RG3.out).mono ?_; rintro e w4 ⟨A4, c4, rfl, hc4, hf4, hr4, hb4⟩; have M1 := Lib.hid (And.intro hf4 (And.intro hr4 hb4)); have SK := Lib.hid (HK.out w4 (BD.out.trans hb4)); have SKa := Lib.hid (HK.out _ ((BD.out.trans hb4).alloc (BD.out.trans hb4).size (.cells #[.slice none 0 0] 22))); have SKb := Lib.hid (HK.out _ ((BD.out.trans hb4).alloc (BD.out.trans hb4).size (.cells #[.slice A4 RK.length c4] 22))))
        | (go_at_call 58; refine (HRk.out _ RGa.out).mono ?_; rintro e w4 ⟨A4, c4, rfl, hc4, hf4, hr4, hb4⟩; have M2 := Lib.hid (And.intro hf4 (And.intro hr4 hb4)); have SK := Lib.hid (HK.out w4 (BA.out.trans (hb4.mono BA.out.size))); have hk4 := (hb4.block _ (lt_of_block KA.out)).trans KA.out; have c4e : w4.cell? ⟨w3.heap.size, 0, none⟩ = some (.slice none 0 0) := (by rw [blk_cell hk4]; rfl); have fr4 := blk_free hk4 0; have SKs := Lib.hid (HK.out _ (bset (BA.out.trans (hb4.mono BA.out.size)) (Nat.le_refl w3.heap.size) 0 (.slice A4 RK.length c4))))))
    all_goals (
      first
        | (have fc : (w4.alloc (.cells #[.slice A4 RK.length c4] 22)).cell? ⟨w4.heap.size, 0, none⟩ = some (.slice A4 RK.length c4) := by rw [blk_cell (heap_alloc_new w4 _)]; rfl
           have fr := M1.out.2.1.alloc_up (.cells #[.slice A4 RK.length c4] 22)
           have fb : Below w3.heap.size w3 (w4.alloc (.cells #[.slice A4 RK.length c4] 22)) := (BD.out.trans M1.out.2.2).alloc (BD.out.trans M1.out.2.2).size _
           obtain ⟨Wf, hWf⟩ : ∃ Wf, w4.alloc (.cells #[.slice A4 RK.length c4] 22) = Wf := ⟨_, rfl⟩
           rw [hWf] at fc fr fb ⊢
           obtain ⟨br, hbr⟩ : ∃ br, w4.heap.size = br := ⟨_, rfl⟩
           rw [hbr] at fc ⊢
           clear hWf hbr)
        | (have hk4 := (M2.out.2.2.block _ (lt_of_block KA.out)).trans KA.out
           have fc : (w4.setCell ⟨w3.heap.size, 0, none⟩ (.slice A4 RK.length c4)).cell? ⟨w3.heap.size, 0, none⟩ = some (.slice A4 RK.length c4) := by rw [blk_cell (blk_set hk4 0 _)]; rfl
           have fb : Below w3.heap.size w3 (w4.setCell ⟨w3.heap.size, 0, none⟩ (.slice A4 RK.length c4)) := bset (BA.out.trans (M2.out.2.2.mono BA.out.size)) (Nat.le_refl w3.heap.size) 0 _
           have fr : Rd (w4.setCell ⟨w3.heap.size, 0, none⟩ (.slice A4 RK.length c4)) (w4.setCell ⟨w3.heap.size, 0, none⟩ (.slice A4 RK.length c4)).heap.size A4 (ints RK) := by
             rcases M2.out.2.1 with h0 | ⟨b, o, ha, hlt, hc⟩
             · exact .inl h0
             · have hfb := M2.out.1 _ ha
               have hsz : (w3.drew.alloc (.cells #[.slice none 0 0] 22)).heap.size = w3.heap.size + 1 := by simp
               rw [hsz] at hfb
               simp only at hfb
               exact .inr ⟨b, o, ha, by simp [World.setCell]; exact hlt, fun i u hi => (((Only.refl w3.heap.size w4).set 0 _).cell (by omega)).trans (hc i u hi)⟩
           obtain ⟨Wf, hWf⟩ : ∃ Wf, w4.setCell ⟨w3.heap.size, 0, none⟩ (.slice A4 RK.length c4) = Wf := ⟨_, rfl⟩
           rw [hWf] at fc fr fb ⊢
           obtain ⟨br, hbr⟩ : ∃ br, w3.heap.size = br := ⟨_, rfl⟩
           rw [hbr] at fc ⊢
           clear hWf hbr hk4)
      have CE := Lib.hid fc
      have RF := Lib.hid fr
      have BF := Lib.hid fb
      have RGf := Lib.hid (RG3.out.up (show Below w3.drew.heap.size w3.drew Wf from ⟨fb.os, fb.tape, fb.output, fb.size, fb.block⟩))
      obtain ⟨t0, t1⟩ := HK.out Wf fb
      have hbrl : br < Wf.heap.size := World.block_lt_of_cell? Wf _ fc
      have HSs := Lib.hid (show ∀ w', Below Wf.heap.size Wf w' → ∀ f t : Nat, f < own.length → t < own.length → Calls Try.prog 72 #[.int .i64 f, .int .i64 t, .pointer (some ⟨br, 0, none⟩)] w' fun e w'' => e = .returned (.bool (suP RK f t)) ∧ Below w'.heap.size w' w'' from fun w' hw' f t hf ht => suitP_any RK f t br A4 c4 w' (cell_keep CE.out hw' hbrl) (RF.out.up hw') (by have := HRl.out; omega) (by have := HRl.out; omega))
      have HPf := Lib.hid (HPl.out br Wf RGf.out HSs.out)
      have BFF := Lib.hid (B3.out.trans (fb.mono B3.out.size))
      clear fc fr fb hbrl HSs
      go_wp2_with fail
      refine HPf.out.mono ?_
      rintro e w7 ⟨A7, c7, rfl, hc7, hf7, hr7, hb7⟩
      go_wp2_with fail
      go_ret2
      exact ⟨A7, c7, rfl, hc7, hf7.le BFF.out.size, hr7, BFF.out.trans (hb7.mono BFF.out.size)⟩)
  · rw [if_neg hE]
    generalize askE g.G L = E at *
    have hb1 : (E == 0) = false := by simpa using hE
    have hb2' : (E != 0) = true := by simpa using hE
    clear hr hf hq hn hb hr1 hb2 HC hE
    unfold Gv.v at HCh ⊢
    generalize g.G = G at *
    obtain ⟨A0, c0, own, A1, c1, rs⟩ := g
    simp only at hW p0 p1 q0 q1 HCh ⊢
    go_enter Try.func35, Try.ntmps35
    go_wp2_with fail
    refine (HCh.out).mono ?_
    rintro e w3 ⟨rfl, hb⟩
    have B3 := Lib.hid (B2.out.trans (hb.mono B2.out.size))
    clear hb
    go_wp2_with fail
    go_ret2
    exact ⟨none, 0, rfl, by decide, fresh_nil w, .inl rfl, B3.out⟩

set_option maxRecDepth 4000 in
set_option maxHeartbeats 3200000 in
theorem Flee_any (g : Gv) (A : Option Addr) (c : Nat) (L : List Int) (w : World) (hr : RdG w w.heap.size g) (hf : Gfit g) (hq : Rd w w.heap.size A (ints L)) (hn : L.length ≤ 9223372036854775807) :
    Calls Try.prog 36 #[g.v, .slice A L.length c] w (MadeIE w (fleL g.G L) (askE g.G L)) := by
  obtain ⟨W, hW, p0, p1, hz, hb, hr1⟩ := box_game w g 25 hr
  have R1 := Lib.hid (hq.up hb)
  have B0 := Lib.hid hb
  obtain ⟨W2, hW2, hb2, HC⟩ := ask_one g A c L W hr1 hf R1.out hn
  have B2 := Lib.hid (hb.trans (hb2.mono hb.size))
  have HCh := Lib.hid HC
  have RG2 := Lib.hid (hr1.up hb2)
  have R2 := Lib.hid (R1.out.up hb2)
  have q0 := cell_keep p0 hb2 hz
  have q1 := cell_keep p1 hb2 hz
  have hz2 : w.heap.size < W2.heap.size := Nat.lt_of_lt_of_le hz hb2.size
  unfold fleL
  by_cases hE : askE g.G L = 0
  · rw [if_pos hE, hE]
    rw [hE] at HCh
    obtain ⟨hG0, hs⟩ := askE_zero hE
    have h16 : g.G.own.length ≤ 16 := (gE_zero hG0).le
    have hg : gatN L < 2 ^ g.G.own.length := gat_lt hs (by omega)
    have HG := Lib.hid (fun w h => gather_any A c L g.own.length w h hn hs (show ((g.own.length : Nat) : Int) ≤ 31 by have e : g.G.own = g.own := rfl; rw [e] at h16; omega))
    have HRk := Lib.hid (fun w h => ranksOf_any g (gatN L) w h hf hG0 hg)
    have hRl : (rkL g.G (gatN L)).length = g.own.length := rkL_len _ _
    have HPl := Lib.hid (fun br w h HS => planOfF_any g 1 br (suF (rkL g.G (gatN L))) w h hf hG0 HS)
    clear hr hf hq hn hb hr1 hb2 HC hE hG0 hs h16 hg
    unfold Gv.v at HCh HRk HPl ⊢
    generalize rkL g.G (gatN L) = RK at *
    generalize g.G = G at *
    obtain ⟨A0, c0, own, A1, c1, rs⟩ := g
    simp only at hW p0 p1 q0 q1 HCh HRk HPl hRl ⊢
    have HRl := Lib.hid hRl
    clear hRl
    go_enter Try.func36, Try.ntmps36
    go_wp2_with fail
    refine (HCh.out).mono ?_
    rintro e w3 ⟨rfl, hb⟩
    have B3 := Lib.hid (B2.out.trans (hb.mono B2.out.size))
    have RG3 := Lib.hid ((RG2.out.up hb).up (Below.refl w3.heap.size w3).drew)
    have R3 := Lib.hid (R2.out.up hb)
    have HK := Lib.hid (fun (w5 : World) (h : Below w3.heap.size w3 w5) => And.intro (cell_keep (cell_keep q0 hb hz2) h (Nat.lt_of_lt_of_le hz2 hb.size)) (cell_keep (cell_keep q1 hb hz2) h (Nat.lt_of_lt_of_le hz2 hb.size)))
    have HS0 := Lib.hid (HK.out w3.drew ((Below.refl _ w3).drew))
    have BD := Lib.hid ((Below.refl w3.heap.size w3).drew)
    have BA := Lib.hid (((Below.refl w3.heap.size w3).drew).alloc (Nat.le_refl _) (.cells #[.slice none 0 0] 22))
    have HSa := Lib.hid (HK.out _ BA.out)
    have RGa := Lib.hid (RG3.out.up ((Below.refl w3.drew.heap.size w3.drew).alloc (Nat.le_refl _) (.cells #[.slice none 0 0] 22)))
    have Ra := Lib.hid (show Rd (w3.drew.alloc (.cells #[.slice none 0 0] 22)) (w3.drew.alloc (.cells #[.slice none 0 0] 22)).heap.size A (ints L) from Rd.up (show Rd w3.drew w3.drew.heap.size A (ints L) from R3.out) ((Below.refl w3.drew.heap.size w3.drew).alloc (Nat.le_refl _) _))
    have hz3 : w.heap.size < w3.heap.size := Nat.lt_of_lt_of_le hz2 hb.size
    have ca : (w3.drew.alloc (.cells #[.slice none 0 0] 22)).heap[w3.heap.size]? = some (.cells #[.slice none 0 0] 22 (0, 0)) := heap_alloc_new w3.drew _
    have KA := Lib.hid ca
    have Z3 := Lib.hid hz3
    clear hb q0 q1 p0 p1 hW hW2 ca hz3
    go_wp2_with fail
    go_region_held3 (fun w' => w'.cell? ⟨w.heap.size, 0, none⟩ = some (.slice A0 own.length c0) ∧ w'.cell? ⟨w.heap.size, 1, none⟩ = some (.slice A1 rs.length c1))
      (first | exact HS0.out | exact HSa.out | exact SK.out | exact SKa.out | exact SKb.out | exact SKs.out | go_keep)
      ((first
        | (go_at_call 49; refine (HG.out w3.drew R3.out).mono ?_; rintro e wq ⟨rfl, rfl⟩)
        | (go_at_call 49; refine (HG.out _ Ra.out).mono ?_; rintro e wq ⟨rfl, rfl⟩)
        | (go_at_call 58; refine (HRk.out w3.drew RG3.out).mono ?_; rintro e w4 ⟨A4, c4, rfl, hc4, hf4, hr4, hb4⟩; have M1 := Lib.hid (And.intro hf4 (And.intro hr4 hb4)); have SK := Lib.hid (HK.out w4 (BD.out.trans hb4)); have SKa := Lib.hid (HK.out _ ((BD.out.trans hb4).alloc (BD.out.trans hb4).size (.cells #[.slice none 0 0] 22))); have SKb := Lib.hid (HK.out _ ((BD.out.trans hb4).alloc (BD.out.trans hb4).size (.cells #[.slice A4 RK.length c4] 22))))
        | (go_at_call 58; refine (HRk.out _ RGa.out).mono ?_; rintro e w4 ⟨A4, c4, rfl, hc4, hf4, hr4, hb4⟩; have M2 := Lib.hid (And.intro hf4 (And.intro hr4 hb4)); have SK := Lib.hid (HK.out w4 (BA.out.trans (hb4.mono BA.out.size))); have hk4 := (hb4.block _ (lt_of_block KA.out)).trans KA.out; have c4e : w4.cell? ⟨w3.heap.size, 0, none⟩ = some (.slice none 0 0) := (by rw [blk_cell hk4]; rfl); have fr4 := blk_free hk4 0; have SKs := Lib.hid (HK.out _ (bset (BA.out.trans (hb4.mono BA.out.size)) (Nat.le_refl w3.heap.size) 0 (.slice A4 RK.length c4))))))
    all_goals (
      first
        | (have fc : (w4.alloc (.cells #[.slice A4 RK.length c4] 22)).cell? ⟨w4.heap.size, 0, none⟩ = some (.slice A4 RK.length c4) := by rw [blk_cell (heap_alloc_new w4 _)]; rfl
           have fr := M1.out.2.1.alloc_up (.cells #[.slice A4 RK.length c4] 22)
           have fb : Below w3.heap.size w3 (w4.alloc (.cells #[.slice A4 RK.length c4] 22)) := (BD.out.trans M1.out.2.2).alloc (BD.out.trans M1.out.2.2).size _
           obtain ⟨Wf, hWf⟩ : ∃ Wf, w4.alloc (.cells #[.slice A4 RK.length c4] 22) = Wf := ⟨_, rfl⟩
           rw [hWf] at fc fr fb ⊢
           obtain ⟨br, hbr⟩ : ∃ br, w4.heap.size = br := ⟨_, rfl⟩
           rw [hbr] at fc ⊢
           clear hWf hbr)
        | (have hk4 := (M2.out.2.2.block _ (lt_of_block KA.out)).trans KA.out
           have fc : (w4.setCell ⟨w3.heap.size, 0, none⟩ (.slice A4 RK.length c4)).cell? ⟨w3.heap.size, 0, none⟩ = some (.slice A4 RK.length c4) := by rw [blk_cell (blk_set hk4 0 _)]; rfl
           have fb : Below w3.heap.size w3 (w4.setCell ⟨w3.heap.size, 0, none⟩ (.slice A4 RK.length c4)) := bset (BA.out.trans (M2.out.2.2.mono BA.out.size)) (Nat.le_refl w3.heap.size) 0 _
           have fr : Rd (w4.setCell ⟨w3.heap.size, 0, none⟩ (.slice A4 RK.length c4)) (w4.setCell ⟨w3.heap.size, 0, none⟩ (.slice A4 RK.length c4)).heap.size A4 (ints RK) := by
             rcases M2.out.2.1 with h0 | ⟨b, o, ha, hlt, hc⟩
             · exact .inl h0
             · have hfb := M2.out.1 _ ha
               have hsz : (w3.drew.alloc (.cells #[.slice none 0 0] 22)).heap.size = w3.heap.size + 1 := by simp
               rw [hsz] at hfb
               simp only at hfb
               exact .inr ⟨b, o, ha, by simp [World.setCell]; exact hlt, fun i u hi => (((Only.refl w3.heap.size w4).set 0 _).cell (by omega)).trans (hc i u hi)⟩
           obtain ⟨Wf, hWf⟩ : ∃ Wf, w4.setCell ⟨w3.heap.size, 0, none⟩ (.slice A4 RK.length c4) = Wf := ⟨_, rfl⟩
           rw [hWf] at fc fr fb ⊢
           obtain ⟨br, hbr⟩ : ∃ br, w3.heap.size = br := ⟨_, rfl⟩
           rw [hbr] at fc ⊢
           clear hWf hbr hk4)
      have CE := Lib.hid fc
      have RF := Lib.hid fr
      have BF := Lib.hid fb
      have RGf := Lib.hid (RG3.out.up (show Below w3.drew.heap.size w3.drew Wf from ⟨fb.os, fb.tape, fb.output, fb.size, fb.block⟩))
      obtain ⟨t0, t1⟩ := HK.out Wf fb
      have hbrl : br < Wf.heap.size := World.block_lt_of_cell? Wf _ fc
      have HSs := Lib.hid (show ∀ w', Below Wf.heap.size Wf w' → ∀ f t : Nat, f < own.length → t < own.length → Calls Try.prog 73 #[.int .i64 f, .int .i64 t, .pointer (some ⟨br, 0, none⟩)] w' fun e w'' => e = .returned (.bool (suF RK f t)) ∧ Below w'.heap.size w' w'' from fun w' hw' f t hf ht => suitF_any RK f t br A4 c4 w' (cell_keep CE.out hw' hbrl) (RF.out.up hw') (by have := HRl.out; omega) (by have := HRl.out; omega))
      have HPf := Lib.hid (HPl.out br Wf RGf.out HSs.out)
      have BFF := Lib.hid (B3.out.trans (fb.mono B3.out.size))
      clear fc fr fb hbrl HSs
      go_wp2_with fail
      refine HPf.out.mono ?_
      rintro e w7 ⟨A7, c7, rfl, hc7, hf7, hr7, hb7⟩
      go_wp2_with fail
      go_ret2
      exact ⟨A7, c7, rfl, hc7, hf7.le BFF.out.size, hr7, BFF.out.trans (hb7.mono BFF.out.size)⟩)
  · rw [if_neg hE]
    generalize askE g.G L = E at *
    have hb1 : (E == 0) = false := by simpa using hE
    have hb2' : (E != 0) = true := by simpa using hE
    clear hr hf hq hn hb hr1 hb2 HC hE
    unfold Gv.v at HCh ⊢
    generalize g.G = G at *
    obtain ⟨A0, c0, own, A1, c1, rs⟩ := g
    simp only at hW p0 p1 q0 q1 HCh ⊢
    go_enter Try.func36, Try.ntmps36
    go_wp2_with fail
    refine (HCh.out).mono ?_
    rintro e w3 ⟨rfl, hb⟩
    have B3 := Lib.hid (B2.out.trans (hb.mono B2.out.size))
    clear hb
    go_wp2_with fail
    go_ret2
    exact ⟨none, 0, rfl, by decide, fresh_nil w, .inl rfl, B3.out⟩
end Go.Proofs.Ytibcjkpfpiamkaa

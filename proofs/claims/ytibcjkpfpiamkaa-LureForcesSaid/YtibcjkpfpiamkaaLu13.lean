/-
  Games: the walks of Before, Ranks, Wins, Free, Within of the reference. Conditions: the game and the set can be read.
-/
import Derived.Test.YtibcjkpfpiamkaaLu12
namespace Go.Proofs.Ytibcjkpfpiamkaa
open Go.RowKit
set_option linter.unusedVariables false

set_option maxRecDepth 4000 in
set_option maxHeartbeats 1600000 in
theorem rBefore_any (g : Gv) (A : Option Addr) (c : Nat) (L : List Int) (w : World) (hr : RdG w w.heap.size g) (hf : Gfit g) (hq : Rd w w.heap.size A (ints L)) (hn : L.length ≤ 9223372036854775807) :
    Calls Try.prog 18 #[g.v, .slice A L.length c] w (MadeIE w (befL g.G L) (askE g.G L)) := by
  obtain ⟨W, hW, p0, p1, hz, hb, hr1⟩ := box_game w g 25 hr
  have R1 := Lib.hid (hq.up hb)
  have RG := Lib.hid hr1
  have B0 := Lib.hid hb
  have HCh := Lib.hid (asked_any g A c L W hr1 hf R1.out hn)
  have B2 := B0
  have RG2 := RG
  have R2 := R1
  have q0 := p0
  have q1 := p1
  have hz2 := hz
  unfold befL
  by_cases hE : askE g.G L = 0
  · obtain ⟨hG0, hs⟩ := askE_zero hE
    have h16 : g.G.own.length ≤ 16 := (gE_zero hG0).le
    have hg : gatN L < 2 ^ g.G.own.length := gat_lt hs (by omega)
    have hp16 : 2 ^ g.G.own.length ≤ 65536 := show 2 ^ g.G.own.length ≤ 2 ^ 16 from Nat.pow_le_pow_right (by omega) h16
    have HG := Lib.hid (fun w h => bits_any A c L g.own.length w h hn hs (show ((g.own.length : Nat) : Int) ≤ 31 by have e : g.G.own = g.own := rfl; rw [e] at h16; omega))
    rw [if_pos hE, hE]
    rw [hE] at HCh
    have HF := Lib.hid (fun w h => before_any g (gatN L) w h hf hG0 (bit32 _))
    have hx : fcN g.G 0 (gatN L) < 65536 := Nat.lt_of_lt_of_le (fcN_lt _ _ _) hp16
    have HL := Lib.hid (fun w => rlist_any (fcN g.G 0 (gatN L)) w hx)
    clear hr hf hq hn hb hr1 hE hG0 hs hg h16 hp16 hx
    unfold Gv.v at HCh HF ⊢
    generalize fcN g.G 0 (gatN L) = X at *
    generalize g.G = G at *
    obtain ⟨A0, c0, own, A1, c1, rs⟩ := g
    simp only at hW p0 p1 q0 q1 HCh HF ⊢
    go_enter Try.func18, Try.ntmps18
    go_wp2_with fail
    refine (HCh.out).mono ?_
    rintro e w3 ⟨rfl, hb⟩
    have B3 := Lib.hid (B2.out.trans (hb.mono B2.out.size))
    have RG3 := Lib.hid ((RG2.out.up hb).up (Below.refl w3.heap.size w3).drew)
    have R3 := Lib.hid (R2.out.up hb)
    have HK := Lib.hid (fun (w5 : World) (h : Below w3.heap.size w3 w5) => And.intro (cell_keep (cell_keep q0 hb hz2) h (Nat.lt_of_lt_of_le hz2 hb.size)) (cell_keep (cell_keep q1 hb hz2) h (Nat.lt_of_lt_of_le hz2 hb.size)))
    have HS0 := Lib.hid (HK.out w3.drew ((Below.refl _ w3).drew))
    have BD := Lib.hid ((Below.refl w3.heap.size w3).drew)
    clear hb q0 q1 p0 p1 hW
    go_wp2_with fail
    go_region_held3 (fun w' => w'.cell? ⟨w.heap.size, 0, none⟩ = some (.slice A0 own.length c0) ∧ w'.cell? ⟨w.heap.size, 1, none⟩ = some (.slice A1 rs.length c1))
      (first | exact HS0.out | exact SK5.out | exact SK6.out)
      ((first
        | (go_at_call 54; refine (HG.out w3.drew R3.out).mono ?_; rintro e wq ⟨rfl, rfl⟩)
        | (go_at_call 53; refine (HF.out w3.drew RG3.out).mono ?_; rintro e w5 ⟨rfl, hb⟩; have B5 := Lib.hid (BD.out.trans (hb.mono BD.out.size)); have SK5 := Lib.hid (HK.out w5 B5.out); have RG5 := Lib.hid (RG3.out.up hb); have R5 := Lib.hid ((R3.out.up BD.out).up hb); clear hb)
        | (go_at_call 52; refine (HL.out w5).mono ?_; rintro e w6 ⟨A6, c6, rfl, hc6, hf6, hr6, hb⟩; have B6 := Lib.hid (B5.out.trans (hb.mono B5.out.size)); have SK6 := Lib.hid (HK.out w6 B6.out); have F6 := Lib.hid (hf6.le B5.out.size); have R6 := Lib.hid hr6; clear hb hf6 hr6)))
    go_wp2_with fail
    go_ret2
    exact ⟨A6, c6, rfl, hc6, F6.out.le B3.out.size, R6.out, B3.out.trans (B6.out.mono B3.out.size)⟩
  · rw [if_neg hE]
    generalize askE g.G L = E at *
    have hb1 : (E == 0) = false := by simpa using hE
    have hb2' : (E != 0) = true := by simpa using hE
    clear hr hf hq hn hb hr1 hE
    unfold Gv.v at HCh ⊢
    generalize g.G = G at *
    obtain ⟨A0, c0, own, A1, c1, rs⟩ := g
    simp only at hW p0 p1 q0 q1 HCh ⊢
    go_enter Try.func18, Try.ntmps18
    go_wp2_with fail
    refine (HCh.out).mono ?_
    rintro e w3 ⟨rfl, hb⟩
    have B3 := Lib.hid (B2.out.trans (hb.mono B2.out.size))
    clear hb
    go_wp2_with fail
    go_ret2
    exact ⟨none, 0, rfl, by decide, fresh_nil w, .inl rfl, B3.out⟩
set_option maxRecDepth 4000 in
set_option maxHeartbeats 1600000 in
theorem rRanks_any (g : Gv) (A : Option Addr) (c : Nat) (L : List Int) (w : World) (hr : RdG w w.heap.size g) (hf : Gfit g) (hq : Rd w w.heap.size A (ints L)) (hn : L.length ≤ 9223372036854775807) :
    Calls Try.prog 23 #[g.v, .slice A L.length c] w (MadeIE w (ranL g.G L) (askE g.G L)) := by
  obtain ⟨W, hW, p0, p1, hz, hb, hr1⟩ := box_game w g 25 hr
  have R1 := Lib.hid (hq.up hb)
  have RG := Lib.hid hr1
  have B0 := Lib.hid hb
  have HCh := Lib.hid (asked_any g A c L W hr1 hf R1.out hn)
  have B2 := B0
  have RG2 := RG
  have R2 := R1
  have q0 := p0
  have q1 := p1
  have hz2 := hz
  unfold ranL
  by_cases hE : askE g.G L = 0
  · obtain ⟨hG0, hs⟩ := askE_zero hE
    have h16 : g.G.own.length ≤ 16 := (gE_zero hG0).le
    have hg : gatN L < 2 ^ g.G.own.length := gat_lt hs (by omega)
    have hp16 : 2 ^ g.G.own.length ≤ 65536 := show 2 ^ g.G.own.length ≤ 2 ^ 16 from Nat.pow_le_pow_right (by omega) h16
    have HG := Lib.hid (fun w h => bits_any A c L g.own.length w h hn hs (show ((g.own.length : Nat) : Int) ≤ 31 by have e : g.G.own = g.own := rfl; rw [e] at h16; omega))
    rw [if_pos hE, hE]
    rw [hE] at HCh
    have HRk := Lib.hid (fun w h => rranks_any g (gatN L) w h hf hG0 hg)
    clear hr hf hq hn hb hr1 hE hG0 hs hg h16 hp16
    unfold Gv.v at HCh HRk ⊢
    generalize rkL g.G (gatN L) = X at *
    generalize g.G = G at *
    obtain ⟨A0, c0, own, A1, c1, rs⟩ := g
    simp only at hW p0 p1 q0 q1 HCh HRk ⊢
    go_enter Try.func23, Try.ntmps23
    go_wp2_with fail
    refine (HCh.out).mono ?_
    rintro e w3 ⟨rfl, hb⟩
    have B3 := Lib.hid (B2.out.trans (hb.mono B2.out.size))
    have RG3 := Lib.hid ((RG2.out.up hb).up (Below.refl w3.heap.size w3).drew)
    have R3 := Lib.hid (R2.out.up hb)
    have HK := Lib.hid (fun (w5 : World) (h : Below w3.heap.size w3 w5) => And.intro (cell_keep (cell_keep q0 hb hz2) h (Nat.lt_of_lt_of_le hz2 hb.size)) (cell_keep (cell_keep q1 hb hz2) h (Nat.lt_of_lt_of_le hz2 hb.size)))
    have HS0 := Lib.hid (HK.out w3.drew ((Below.refl _ w3).drew))
    have BD := Lib.hid ((Below.refl w3.heap.size w3).drew)
    clear hb q0 q1 p0 p1 hW
    go_wp2_with fail
    go_region_held3 (fun w' => w'.cell? ⟨w.heap.size, 0, none⟩ = some (.slice A0 own.length c0) ∧ w'.cell? ⟨w.heap.size, 1, none⟩ = some (.slice A1 rs.length c1))
      (first | exact HS0.out | exact SK5.out)
      ((first
        | (go_at_call 54; refine (HG.out w3.drew R3.out).mono ?_; rintro e wq ⟨rfl, rfl⟩)
        | (go_at_call 59; refine (HRk.out w3.drew RG3.out).mono ?_; rintro e w5 ⟨A5, c5, rfl, hc5, hf5, hr5, hb⟩; have B5 := Lib.hid (BD.out.trans (hb.mono BD.out.size)); have SK5 := Lib.hid (HK.out w5 B5.out); have F5 := Lib.hid (hf5.le BD.out.size); have R5 := Lib.hid hr5; clear hb hf5 hr5)))
    go_wp2_with fail
    go_ret2
    exact ⟨A5, c5, rfl, hc5, F5.out.le B3.out.size, R5.out, B3.out.trans (B5.out.mono B3.out.size)⟩
  · rw [if_neg hE]
    generalize askE g.G L = E at *
    have hb1 : (E == 0) = false := by simpa using hE
    have hb2' : (E != 0) = true := by simpa using hE
    clear hr hf hq hn hb hr1 hE
    unfold Gv.v at HCh ⊢
    generalize g.G = G at *
    obtain ⟨A0, c0, own, A1, c1, rs⟩ := g
    simp only at hW p0 p1 q0 q1 HCh ⊢
    go_enter Try.func23, Try.ntmps23
    go_wp2_with fail
    refine (HCh.out).mono ?_
    rintro e w3 ⟨rfl, hb⟩
    have B3 := Lib.hid (B2.out.trans (hb.mono B2.out.size))
    clear hb
    go_wp2_with fail
    go_ret2
    exact ⟨none, 0, rfl, by decide, fresh_nil w, .inl rfl, B3.out⟩
set_option maxRecDepth 4000 in
set_option maxHeartbeats 1600000 in
theorem rWins_any (g : Gv) (A : Option Addr) (c : Nat) (L : List Int) (w : World) (hr : RdG w w.heap.size g) (hf : Gfit g) (hq : Rd w w.heap.size A (ints L)) (hn : L.length ≤ 9223372036854775807) :
    Calls Try.prog 25 #[g.v, .slice A L.length c] w (MadeIE w (winL g.G L) (askE g.G L)) := by
  obtain ⟨W, hW, p0, p1, hz, hb, hr1⟩ := box_game w g 25 hr
  have R1 := Lib.hid (hq.up hb)
  have RG := Lib.hid hr1
  have B0 := Lib.hid hb
  have HCh := Lib.hid (asked_any g A c L W hr1 hf R1.out hn)
  have B2 := B0
  have RG2 := RG
  have R2 := R1
  have q0 := p0
  have q1 := p1
  have hz2 := hz
  unfold winL
  by_cases hE : askE g.G L = 0
  · obtain ⟨hG0, hs⟩ := askE_zero hE
    have h16 : g.G.own.length ≤ 16 := (gE_zero hG0).le
    have hg : gatN L < 2 ^ g.G.own.length := gat_lt hs (by omega)
    have hp16 : 2 ^ g.G.own.length ≤ 65536 := show 2 ^ g.G.own.length ≤ 2 ^ 16 from Nat.pow_le_pow_right (by omega) h16
    have HG := Lib.hid (fun w h => bits_any A c L g.own.length w h hn hs (show ((g.own.length : Nat) : Int) ≤ 31 by have e : g.G.own = g.own := rfl; rw [e] at h16; omega))
    rw [if_pos hE, hE]
    rw [hE] at HCh
    have HWn := Lib.hid (fun w h => won_any g (gatN L) w h hf hG0 hg)
    have hx : wonN g.G (gatN L) < 65536 := Nat.lt_of_lt_of_le (lv_lt hg _) hp16
    have HL := Lib.hid (fun w => rlist_any (wonN g.G (gatN L)) w hx)
    clear hr hf hq hn hb hr1 hE hG0 hs hg h16 hp16 hx
    unfold Gv.v at HCh HWn ⊢
    generalize wonN g.G (gatN L) = X at *
    generalize g.G = G at *
    obtain ⟨A0, c0, own, A1, c1, rs⟩ := g
    simp only at hW p0 p1 q0 q1 HCh HWn ⊢
    go_enter Try.func25, Try.ntmps25
    go_wp2_with fail
    refine (HCh.out).mono ?_
    rintro e w3 ⟨rfl, hb⟩
    have B3 := Lib.hid (B2.out.trans (hb.mono B2.out.size))
    have RG3 := Lib.hid ((RG2.out.up hb).up (Below.refl w3.heap.size w3).drew)
    have R3 := Lib.hid (R2.out.up hb)
    have HK := Lib.hid (fun (w5 : World) (h : Below w3.heap.size w3 w5) => And.intro (cell_keep (cell_keep q0 hb hz2) h (Nat.lt_of_lt_of_le hz2 hb.size)) (cell_keep (cell_keep q1 hb hz2) h (Nat.lt_of_lt_of_le hz2 hb.size)))
    have HS0 := Lib.hid (HK.out w3.drew ((Below.refl _ w3).drew))
    have BD := Lib.hid ((Below.refl w3.heap.size w3).drew)
    clear hb q0 q1 p0 p1 hW
    go_wp2_with fail
    go_region_held3 (fun w' => w'.cell? ⟨w.heap.size, 0, none⟩ = some (.slice A0 own.length c0) ∧ w'.cell? ⟨w.heap.size, 1, none⟩ = some (.slice A1 rs.length c1))
      (first | exact HS0.out | exact SK5.out | exact SK6.out)
      ((first
        | (go_at_call 54; refine (HG.out w3.drew R3.out).mono ?_; rintro e wq ⟨rfl, rfl⟩)
        | (go_at_call 61; refine (HWn.out w3.drew RG3.out).mono ?_; rintro e w5 ⟨rfl, hb⟩; have B5 := Lib.hid (BD.out.trans (hb.mono BD.out.size)); have SK5 := Lib.hid (HK.out w5 B5.out); have RG5 := Lib.hid (RG3.out.up hb); have R5 := Lib.hid ((R3.out.up BD.out).up hb); clear hb)
        | (go_at_call 52; refine (HL.out w5).mono ?_; rintro e w6 ⟨A6, c6, rfl, hc6, hf6, hr6, hb⟩; have B6 := Lib.hid (B5.out.trans (hb.mono B5.out.size)); have SK6 := Lib.hid (HK.out w6 B6.out); have F6 := Lib.hid (hf6.le B5.out.size); have R6 := Lib.hid hr6; clear hb hf6 hr6)))
    go_wp2_with fail
    go_ret2
    exact ⟨A6, c6, rfl, hc6, F6.out.le B3.out.size, R6.out, B3.out.trans (B6.out.mono B3.out.size)⟩
  · rw [if_neg hE]
    generalize askE g.G L = E at *
    have hb1 : (E == 0) = false := by simpa using hE
    have hb2' : (E != 0) = true := by simpa using hE
    clear hr hf hq hn hb hr1 hE
    unfold Gv.v at HCh ⊢
    generalize g.G = G at *
    obtain ⟨A0, c0, own, A1, c1, rs⟩ := g
    simp only at hW p0 p1 q0 q1 HCh ⊢
    go_enter Try.func25, Try.ntmps25
    go_wp2_with fail
    refine (HCh.out).mono ?_
    rintro e w3 ⟨rfl, hb⟩
    have B3 := Lib.hid (B2.out.trans (hb.mono B2.out.size))
    clear hb
    go_wp2_with fail
    go_ret2
    exact ⟨none, 0, rfl, by decide, fresh_nil w, .inl rfl, B3.out⟩
set_option maxRecDepth 4000 in
set_option maxHeartbeats 1600000 in
theorem rFree_any (g : Gv) (A : Option Addr) (c : Nat) (L : List Int) (w : World) (hr : RdG w w.heap.size g) (hf : Gfit g) (hq : Rd w w.heap.size A (ints L)) (hn : L.length ≤ 9223372036854775807) :
    Calls Try.prog 27 #[g.v, .slice A L.length c] w (MadeIE w (freL g.G L) (askE g.G L)) := by
  obtain ⟨W, hW, p0, p1, hz, hb, hr1⟩ := box_game w g 25 hr
  have R1 := Lib.hid (hq.up hb)
  have RG := Lib.hid hr1
  have B0 := Lib.hid hb
  have HCh := Lib.hid (asked_any g A c L W hr1 hf R1.out hn)
  have B2 := B0
  have RG2 := RG
  have R2 := R1
  have q0 := p0
  have q1 := p1
  have hz2 := hz
  unfold freL
  by_cases hE : askE g.G L = 0
  · obtain ⟨hG0, hs⟩ := askE_zero hE
    have h16 : g.G.own.length ≤ 16 := (gE_zero hG0).le
    have hg : gatN L < 2 ^ g.G.own.length := gat_lt hs (by omega)
    have hp16 : 2 ^ g.G.own.length ≤ 65536 := show 2 ^ g.G.own.length ≤ 2 ^ 16 from Nat.pow_le_pow_right (by omega) h16
    have HG := Lib.hid (fun w h => bits_any A c L g.own.length w h hn hs (show ((g.own.length : Nat) : Int) ≤ 31 by have e : g.G.own = g.own := rfl; rw [e] at h16; omega))
    rw [if_pos hE, hE]
    rw [hE] at HCh
    have HEv := Lib.hid (fun w h => all_any g w h hf hG0)
    have HAN := free_eq64 hg h16
    rw [show g.G.own = g.own from rfl] at HAN
    have HWn := Lib.hid (fun w h => won_any g (gatN L) w h hf hG0 hg)
    have hx : freeN g.G (gatN L) < 65536 := Nat.lt_of_lt_of_le (free_lt _ _) hp16
    have HL := Lib.hid (fun w => rlist_any (freeN g.G (gatN L)) w hx)
    clear hr hf hq hn hb hr1 hE hG0 hs hg h16 hp16 hx
    unfold Gv.v at HCh HWn HEv ⊢
    generalize freeN g.G (gatN L) = X at *
    generalize wonN g.G (gatN L) = Y at *
    generalize 2 ^ g.own.length - 1 = V at *
    generalize g.G = G at *
    obtain ⟨A0, c0, own, A1, c1, rs⟩ := g
    simp only at hW p0 p1 q0 q1 HCh HWn HEv ⊢
    go_enter Try.func27, Try.ntmps27
    go_wp2_with fail
    refine (HCh.out).mono ?_
    rintro e w3 ⟨rfl, hb⟩
    have B3 := Lib.hid (B2.out.trans (hb.mono B2.out.size))
    have RG3 := Lib.hid ((RG2.out.up hb).up (Below.refl w3.heap.size w3).drew)
    have R3 := Lib.hid (R2.out.up hb)
    have HK := Lib.hid (fun (w5 : World) (h : Below w3.heap.size w3 w5) => And.intro (cell_keep (cell_keep q0 hb hz2) h (Nat.lt_of_lt_of_le hz2 hb.size)) (cell_keep (cell_keep q1 hb hz2) h (Nat.lt_of_lt_of_le hz2 hb.size)))
    have HS0 := Lib.hid (HK.out w3.drew ((Below.refl _ w3).drew))
    have BD := Lib.hid ((Below.refl w3.heap.size w3).drew)
    clear hb q0 q1 p0 p1 hW
    go_wp2_with fail
    go_region_held3 (fun w' => w'.cell? ⟨w.heap.size, 0, none⟩ = some (.slice A0 own.length c0) ∧ w'.cell? ⟨w.heap.size, 1, none⟩ = some (.slice A1 rs.length c1))
      (first | exact HS0.out | exact SK5.out | exact SK6.out | exact SK7.out)
      ((first
        | (go_at_call 63; refine (HEv.out w3.drew RG3.out).mono ?_; rintro e w5 ⟨rfl, hb⟩; have B5 := Lib.hid (BD.out.trans (hb.mono BD.out.size)); have SK5 := Lib.hid (HK.out w5 B5.out); have RG5 := Lib.hid (RG3.out.up hb); have R5 := Lib.hid ((R3.out.up BD.out).up hb); clear hb)
        | (go_at_call 54; refine (HG.out w5 R5.out).mono ?_; rintro e wq ⟨rfl, rfl⟩)
        | (go_at_call 61; refine (HWn.out w5 RG5.out).mono ?_; rintro e w6 ⟨rfl, hb⟩; have B6 := Lib.hid (B5.out.trans (hb.mono B5.out.size)); have SK6 := Lib.hid (HK.out w6 B6.out); have RG6 := Lib.hid (RG5.out.up hb); have R6 := Lib.hid ((R5.out.up (Below.refl _ _)).up hb); clear hb)
        | (go_at_call 52; refine (HL.out w6).mono ?_; rintro e w7 ⟨A7, c7, rfl, hc7, hf7, hr7, hb⟩; have B7 := Lib.hid (B6.out.trans (hb.mono B6.out.size)); have SK7 := Lib.hid (HK.out w7 B7.out); have F7 := Lib.hid (hf7.le B6.out.size); have R7 := Lib.hid hr7; clear hb hf7 hr7)))
    go_wp2_with fail
    go_ret2
    exact ⟨A7, c7, rfl, hc7, F7.out.le B3.out.size, R7.out, B3.out.trans (B7.out.mono B3.out.size)⟩
  · rw [if_neg hE]
    generalize askE g.G L = E at *
    have hb1 : (E == 0) = false := by simpa using hE
    have hb2' : (E != 0) = true := by simpa using hE
    clear hr hf hq hn hb hr1 hE
    unfold Gv.v at HCh ⊢
    generalize g.G = G at *
    obtain ⟨A0, c0, own, A1, c1, rs⟩ := g
    simp only at hW p0 p1 q0 q1 HCh ⊢
    go_enter Try.func27, Try.ntmps27
    go_wp2_with fail
    refine (HCh.out).mono ?_
    rintro e w3 ⟨rfl, hb⟩
    have B3 := Lib.hid (B2.out.trans (hb.mono B2.out.size))
    clear hb
    go_wp2_with fail
    go_ret2
    exact ⟨none, 0, rfl, by decide, fresh_nil w, .inl rfl, B3.out⟩
set_option maxRecDepth 4000 in
set_option maxHeartbeats 1600000 in
theorem rWithin_any (g : Gv) (A : Option Addr) (c : Nat) (L : List Int) (mv : Int) (w : World) (hr : RdG w w.heap.size g) (hf : Gfit g) (hq : Rd w w.heap.size A (ints L)) (hn : L.length ≤ 9223372036854775807) :
    Calls Try.prog 29 #[g.v, .slice A L.length c, .int .i64 mv] w (MadeIE w (witL g.G L mv) (witE g.G L mv)) := by
  obtain ⟨W, hW, p0, p1, hz, hb, hr1⟩ := box_game w g 25 hr
  have R1 := Lib.hid (hq.up hb)
  have RG := Lib.hid hr1
  have B0 := Lib.hid hb
  have HCh := Lib.hid (asked_any g A c L W hr1 hf R1.out hn)
  have B2 := B0
  have RG2 := RG
  have R2 := R1
  have q0 := p0
  have q1 := p1
  have hz2 := hz
  unfold witL
  unfold witE
  by_cases hE : askE g.G L = 0
  · obtain ⟨hG0, hs⟩ := askE_zero hE
    have h16 : g.G.own.length ≤ 16 := (gE_zero hG0).le
    have hg : gatN L < 2 ^ g.G.own.length := gat_lt hs (by omega)
    have hp16 : 2 ^ g.G.own.length ≤ 65536 := show 2 ^ g.G.own.length ≤ 2 ^ 16 from Nat.pow_le_pow_right (by omega) h16
    have HG := Lib.hid (fun w h => bits_any A c L g.own.length w h hn hs (show ((g.own.length : Nat) : Int) ≤ 31 by have e : g.G.own = g.own := rfl; rw [e] at h16; omega))
    rw [hE] at HCh
    by_cases hm : inW 0 100 mv = true
    · rw [if_pos (And.intro hE hm), if_pos hE, if_pos hm]
      have HMv := Lib.hid (fun w => within_any mv 0 100 w)
      rw [hm] at HMv
      rw [inW_iff] at hm
      obtain ⟨m, rfl⟩ := Int.eq_ofNat_of_zero_le hm.1
      rw [Int.toNat_natCast]
      have HRe := Lib.hid (fun w h => reached_any g (gatN L) m w h hf hG0 hg)
      have hx : lv g.G (gatN L) (m + 1) < 65536 := Nat.lt_of_lt_of_le (lv_lt hg _) hp16
      have HL := Lib.hid (fun w => rlist_any (lv g.G (gatN L) (m + 1)) w hx)
      clear hr hf hq hn hb hr1 hE hG0 hs hg h16 hp16 hx hm
      unfold Gv.v at HCh HRe ⊢
      generalize lv g.G (gatN L) (m + 1) = X at *
      generalize g.G = G at *
      obtain ⟨A0, c0, own, A1, c1, rs⟩ := g
      simp only at hW p0 p1 q0 q1 HCh HRe ⊢
      go_enter Try.func29, Try.ntmps29
      go_wp2_with fail
      refine (HCh.out).mono ?_
      rintro e w3 ⟨rfl, hb⟩
      have B3 := Lib.hid (B2.out.trans (hb.mono B2.out.size))
      have RG3 := Lib.hid ((RG2.out.up hb).up (Below.refl w3.heap.size w3).drew)
      have R3 := Lib.hid (R2.out.up hb)
      have HK := Lib.hid (fun (w5 : World) (h : Below w3.heap.size w3 w5) => And.intro (cell_keep (cell_keep q0 hb hz2) h (Nat.lt_of_lt_of_le hz2 hb.size)) (cell_keep (cell_keep q1 hb hz2) h (Nat.lt_of_lt_of_le hz2 hb.size)))
      have HS0 := Lib.hid (HK.out w3.drew ((Below.refl _ w3).drew))
      have BD := Lib.hid ((Below.refl w3.heap.size w3).drew)
      clear hb q0 q1 p0 p1 hW
      go_wp2_with fail
      refine (HMv.out w3).mono ?_
      rintro e w' ⟨rfl, rfl⟩
      go_wp2_with fail
      go_region_held3 (fun w' => w'.cell? ⟨w.heap.size, 0, none⟩ = some (.slice A0 own.length c0) ∧ w'.cell? ⟨w.heap.size, 1, none⟩ = some (.slice A1 rs.length c1))
        (first | exact HS0.out | exact SK5.out | exact SK6.out)
        ((first
          | (go_at_call 54; refine (HG.out w3.drew R3.out).mono ?_; rintro e wq ⟨rfl, rfl⟩)
          | (go_at_call 66; refine (HRe.out w3.drew RG3.out).mono ?_; rintro e w5 ⟨rfl, hb⟩; have B5 := Lib.hid (BD.out.trans (hb.mono BD.out.size)); have SK5 := Lib.hid (HK.out w5 B5.out); have RG5 := Lib.hid (RG3.out.up hb); have R5 := Lib.hid ((R3.out.up BD.out).up hb); clear hb)
          | (go_at_call 52; refine (HL.out w5).mono ?_; rintro e w6 ⟨A6, c6, rfl, hc6, hf6, hr6, hb⟩; have B6 := Lib.hid (B5.out.trans (hb.mono B5.out.size)); have SK6 := Lib.hid (HK.out w6 B6.out); have F6 := Lib.hid (hf6.le B5.out.size); have R6 := Lib.hid hr6; clear hb hf6 hr6)))
      go_wp2_with fail
      go_ret2
      exact ⟨A6, c6, rfl, hc6, F6.out.le B3.out.size, R6.out, B3.out.trans (B6.out.mono B3.out.size)⟩
    · rw [if_neg (fun h => hm h.2), if_pos hE, if_neg hm]
      have HMv := Lib.hid (fun w => within_any mv 0 100 w)
      rw [show inW 0 100 mv = false from by simpa using hm] at HMv
      clear hr hf hq hn hb hr1 hE hG0 hs hg h16 hp16 hm HG
      unfold Gv.v at HCh ⊢
      generalize g.G = G at *
      obtain ⟨A0, c0, own, A1, c1, rs⟩ := g
      simp only at hW p0 p1 q0 q1 HCh ⊢
      go_enter Try.func29, Try.ntmps29
      go_wp2_with fail
      refine (HCh.out).mono ?_
      rintro e w3 ⟨rfl, hb⟩
      have B3 := Lib.hid (B2.out.trans (hb.mono B2.out.size))
      clear hb
      go_wp2_with fail
      refine (HMv.out w3).mono ?_
      rintro e w' ⟨rfl, rfl⟩
      go_wp2_with fail
      go_ret2
      exact ⟨none, 0, rfl, by decide, fresh_nil w, .inl rfl, B3.out⟩
  · rw [if_neg (fun h => hE h.1), if_neg hE]
    generalize askE g.G L = E at *
    have hb1 : (E == 0) = false := by simpa using hE
    have hb2' : (E != 0) = true := by simpa using hE
    clear hr hf hq hn hb hr1 hE
    unfold Gv.v at HCh ⊢
    generalize g.G = G at *
    obtain ⟨A0, c0, own, A1, c1, rs⟩ := g
    simp only at hW p0 p1 q0 q1 HCh ⊢
    go_enter Try.func29, Try.ntmps29
    go_wp2_with fail
    refine (HCh.out).mono ?_
    rintro e w3 ⟨rfl, hb⟩
    have B3 := Lib.hid (B2.out.trans (hb.mono B2.out.size))
    clear hb
    go_wp2_with fail
    go_ret2
    exact ⟨none, 0, rfl, by decide, fresh_nil w, .inl rfl, B3.out⟩
end Go.Proofs.Ytibcjkpfpiamkaa

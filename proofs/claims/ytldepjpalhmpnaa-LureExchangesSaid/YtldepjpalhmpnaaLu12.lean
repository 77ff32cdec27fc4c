/-
  Games: the walks of Ranks, Wins, Free, Within of package lure. Conditions: the game and the set can be read.
-/
import Derived.Test.YtldepjpalhmpnaaLu11
namespace Go.Proofs.Ytldepjpalhmpnaa
open Go.RowKit
set_option linter.unusedVariables false

def ranL (G : Gm) (L : List Int) : List Int := if askE G L = 0 then rkL G (gatN L) else []
def winL (G : Gm) (L : List Int) : List Int := if askE G L = 0 then lst (wonN G (gatN L)) else []
def freL (G : Gm) (L : List Int) : List Int := if askE G L = 0 then lst (freeN G (gatN L)) else []
def witL (G : Gm) (L : List Int) (mv : Int) : List Int := if askE G L = 0 ∧ inW 0 100 mv = true then lst (lv G (gatN L) (mv.toNat + 1)) else []
def witE (G : Gm) (L : List Int) (mv : Int) : Int := if askE G L = 0 then (if inW 0 100 mv = true then 0 else 1) else askE G L
theorem free_eq {G : Gm} {goal : Nat} (hg : goal < 2 ^ G.own.length) (h16 : G.own.length ≤ 16) : (2 ^ G.own.length - 1) &&& (4294967295 - wonN G goal) = freeN G goal := by
  apply Nat.eq_of_testBit_eq
  intro j
  rw [Nat.testBit_and, Nat.testBit_two_pow_sub_one]
  rcases Nat.lt_or_ge j G.own.length with h | h
  · rw [not_at (won_32 hg h16) (show j < 32 by omega), free_at h]
    simp [h]
  · rw [high_bits (free_lt G goal) h]
    simp
    omega
theorem free_eq64 {G : Gm} {goal : Nat} (hg : goal < 2 ^ G.own.length) (h16 : G.own.length ≤ 16) : bits .andNot .i64 ((2 ^ G.own.length - 1 : Nat) : Int) ((wonN G goal : Nat) : Int) = ((freeN G goal : Nat) : Int) := by
  have h1 : 2 ^ G.own.length ≤ 2 ^ 16 := Nat.pow_le_pow_right (by omega) h16
  have h2 := won_32 (G := G) hg h16
  rw [i64_andNot_nat _ _ (by omega) (by omega)]
  congr 1
  apply Nat.eq_of_testBit_eq
  intro j
  rw [dif_test (by omega) (by omega), Nat.testBit_two_pow_sub_one]
  rcases Nat.lt_or_ge j G.own.length with h | h
  · rw [free_at h]
    simp [h]
  · rw [high_bits (free_lt G goal) h]
    simp
    omega
theorem free_eq32 {G : Gm} {goal : Nat} (hg : goal < 2 ^ G.own.length) (h16 : G.own.length ≤ 16) : bits .andNot .u32 ((2 ^ G.own.length - 1 : Nat) : Int) ((wonN G goal : Nat) : Int) = ((freeN G goal : Nat) : Int) := by
  have h1 : 2 ^ G.own.length ≤ 2 ^ 16 := Nat.pow_le_pow_right (by omega) h16
  rw [u32_andNot_nat _ _ (by omega) (won_32 hg h16), free_eq hg h16]
set_option maxRecDepth 4000 in
set_option maxHeartbeats 1600000 in
theorem Ranks_any (g : Gv) (A : Option Addr) (c : Nat) (L : List Int) (w : World) (hr : RdG w w.heap.size g) (hf : Gfit g) (hq : Rd w w.heap.size A (ints L)) (hn : L.length ≤ 9223372036854775807) :
    Calls Try.prog 14 #[g.v, .slice A L.length c] w (MadeIE w (ranL g.G L) (askE g.G L)) := by
  obtain ⟨W, hW, p0, p1, hz, hb, hr1⟩ := box_game w g 25 hr
  have R1 := Lib.hid (hq.up hb)
  have RG := Lib.hid hr1
  have B0 := Lib.hid hb
  obtain ⟨W2, hW2, hb2, HC⟩ := ask_one g A c L W hr1 hf R1.out hn
  have B2 := Lib.hid (hb.trans (hb2.mono hb.size))
  have HCh := Lib.hid HC
  have RG2 := Lib.hid (hr1.up hb2)
  have R2 := Lib.hid (R1.out.up hb2)
  have q0 := cell_keep p0 hb2 hz
  have q1 := cell_keep p1 hb2 hz
  have hz2 : w.heap.size < W2.heap.size := Nat.lt_of_lt_of_le hz hb2.size
  unfold ranL
  by_cases hE : askE g.G L = 0
  · obtain ⟨hG0, hs⟩ := askE_zero hE
    have h16 : g.G.own.length ≤ 16 := (gE_zero hG0).le
    have hg : gatN L < 2 ^ g.G.own.length := gat_lt hs (by omega)
    have hp16 : 2 ^ g.G.own.length ≤ 65536 := show 2 ^ g.G.own.length ≤ 2 ^ 16 from Nat.pow_le_pow_right (by omega) h16
    have HG := Lib.hid (fun w h => gather_any A c L g.own.length w h hn hs (show ((g.own.length : Nat) : Int) ≤ 31 by have e : g.G.own = g.own := rfl; rw [e] at h16; omega))
    rw [if_pos hE, hE]
    rw [hE] at HCh
    have HRk := Lib.hid (fun w h => ranksOf_any g (gatN L) w h hf hG0 hg)
    clear hr hf hq hn hb hr1 hb2 HC hE hG0 hs hg h16 hp16
    unfold Gv.v at HCh HRk ⊢
    generalize rkL g.G (gatN L) = X at *
    generalize g.G = G at *
    obtain ⟨A0, c0, own, A1, c1, rs⟩ := g
    simp only at hW p0 p1 q0 q1 HCh HRk ⊢
    go_enter Try.func14, Try.ntmps14
    go_wp2_with fail
    refine (HCh.out).mono ?_
    rintro e w3 ⟨rfl, hb⟩
    have B3 := Lib.hid (B2.out.trans (hb.mono B2.out.size))
    have RG3 := Lib.hid ((RG2.out.up hb).up (Below.refl w3.heap.size w3).drew)
    have R3 := Lib.hid (R2.out.up hb)
    have HK := Lib.hid (fun (w5 : World) (h : Below w3.heap.size w3 w5) => And.intro (cell_keep (cell_keep q0 hb hz2) h (Nat.lt_of_lt_of_le hz2 hb.size)) (cell_keep (cell_keep q1 hb hz2) h (Nat.lt_of_lt_of_le hz2 hb.size)))
    have HS0 := Lib.hid (HK.out w3.drew ((Below.refl _ w3).drew))
    have BD := Lib.hid ((Below.refl w3.heap.size w3).drew)
    clear hb q0 q1 p0 p1 hW hW2
    go_wp2_with fail
    go_region_held3 (fun w' => w'.cell? ⟨w.heap.size, 0, none⟩ = some (.slice A0 own.length c0) ∧ w'.cell? ⟨w.heap.size, 1, none⟩ = some (.slice A1 rs.length c1))
      (first | exact HS0.out | exact SK5.out)
      ((first
        | (go_at_call 22; refine (HG.out w3.drew R3.out).mono ?_; rintro e wq ⟨rfl, rfl⟩)
        | (go_at_call 27; refine (HRk.out w3.drew RG3.out).mono ?_; rintro e w5 ⟨A5, c5, rfl, hc5, hf5, hr5, hb⟩; have B5 := Lib.hid (BD.out.trans (hb.mono BD.out.size)); have SK5 := Lib.hid (HK.out w5 B5.out); have F5 := Lib.hid (hf5.le BD.out.size); have R5 := Lib.hid hr5; clear hb hf5 hr5)))
    go_wp2_with fail
    go_ret2
    exact ⟨A5, c5, rfl, hc5, F5.out.le B3.out.size, R5.out, B3.out.trans (B5.out.mono B3.out.size)⟩
  · rw [if_neg hE]
    generalize askE g.G L = E at *
    have hb1 : (E == 0) = false := by simpa using hE
    have hb2' : (E != 0) = true := by simpa using hE
    clear hr hf hq hn hb hr1 hb2 HC hE
    unfold Gv.v at HCh ⊢
    generalize g.G = G at *
    obtain ⟨A0, c0, own, A1, c1, rs⟩ := g
    simp only at hW p0 p1 q0 q1 HCh ⊢
    go_enter Try.func14, Try.ntmps14
    go_wp2_with fail
    refine (HCh.out).mono ?_
    rintro e w3 ⟨rfl, hb⟩
    have B3 := Lib.hid (B2.out.trans (hb.mono B2.out.size))
    clear hb
    go_wp2_with fail
    go_ret2
    exact ⟨none, 0, rfl, by decide, fresh_nil w, .inl rfl, B3.out⟩
set_option maxRecDepth 4000 in
set_option maxHeartbeats 1600000 in
theorem Free_any (g : Gv) (A : Option Addr) (c : Nat) (L : List Int) (w : World) (hr : RdG w w.heap.size g) (hf : Gfit g) (hq : Rd w w.heap.size A (ints L)) (hn : L.length ≤ 9223372036854775807) :
    Calls Try.prog 10 #[g.v, .slice A L.length c] w (MadeIE w (freL g.G L) (askE g.G L)) := by
  obtain ⟨W, hW, p0, p1, hz, hb, hr1⟩ := box_game w g 25 hr
  have R1 := Lib.hid (hq.up hb)
  have RG := Lib.hid hr1
  have B0 := Lib.hid hb
  obtain ⟨W2, hW2, hb2, HC⟩ := ask_one g A c L W hr1 hf R1.out hn
  have B2 := Lib.hid (hb.trans (hb2.mono hb.size))
  have HCh := Lib.hid HC
  have RG2 := Lib.hid (hr1.up hb2)
  have R2 := Lib.hid (R1.out.up hb2)
  have q0 := cell_keep p0 hb2 hz
  have q1 := cell_keep p1 hb2 hz
  have hz2 : w.heap.size < W2.heap.size := Nat.lt_of_lt_of_le hz hb2.size
  unfold freL
  by_cases hE : askE g.G L = 0
  · obtain ⟨hG0, hs⟩ := askE_zero hE
    have h16 : g.G.own.length ≤ 16 := (gE_zero hG0).le
    have hg : gatN L < 2 ^ g.G.own.length := gat_lt hs (by omega)
    have hp16 : 2 ^ g.G.own.length ≤ 65536 := show 2 ^ g.G.own.length ≤ 2 ^ 16 from Nat.pow_le_pow_right (by omega) h16
    have HG := Lib.hid (fun w h => gather_any A c L g.own.length w h hn hs (show ((g.own.length : Nat) : Int) ≤ 31 by have e : g.G.own = g.own := rfl; rw [e] at h16; omega))
    rw [if_pos hE, hE]
    rw [hE] at HCh
    have HEv := Lib.hid (fun w h => every_any g w h hf hG0)
    have HAN := free_eq32 hg h16
    rw [show g.G.own = g.own from rfl] at HAN
    have HWn := Lib.hid (fun w h => wins_any g (gatN L) w h hf hG0 hg)
    have hx : freeN g.G (gatN L) < 65536 := Nat.lt_of_lt_of_le (free_lt _ _) hp16
    have HL := Lib.hid (fun w => list_any (freeN g.G (gatN L)) w (by omega))
    clear hr hf hq hn hb hr1 hb2 HC hE hG0 hs hg h16 hp16 hx
    unfold Gv.v at HCh HWn HEv ⊢
    generalize freeN g.G (gatN L) = X at *
    generalize wonN g.G (gatN L) = Y at *
    generalize 2 ^ g.own.length - 1 = V at *
    generalize g.G = G at *
    obtain ⟨A0, c0, own, A1, c1, rs⟩ := g
    simp only at hW p0 p1 q0 q1 HCh HWn HEv ⊢
    go_enter Try.func10, Try.ntmps10
    go_wp2_with fail
    refine (HCh.out).mono ?_
    rintro e w3 ⟨rfl, hb⟩
    have B3 := Lib.hid (B2.out.trans (hb.mono B2.out.size))
    have RG3 := Lib.hid ((RG2.out.up hb).up (Below.refl w3.heap.size w3).drew)
    have R3 := Lib.hid (R2.out.up hb)
    have HK := Lib.hid (fun (w5 : World) (h : Below w3.heap.size w3 w5) => And.intro (cell_keep (cell_keep q0 hb hz2) h (Nat.lt_of_lt_of_le hz2 hb.size)) (cell_keep (cell_keep q1 hb hz2) h (Nat.lt_of_lt_of_le hz2 hb.size)))
    have HS0 := Lib.hid (HK.out w3.drew ((Below.refl _ w3).drew))
    have BD := Lib.hid ((Below.refl w3.heap.size w3).drew)
    clear hb q0 q1 p0 p1 hW hW2
    go_wp2_with fail
    go_region_held3 (fun w' => w'.cell? ⟨w.heap.size, 0, none⟩ = some (.slice A0 own.length c0) ∧ w'.cell? ⟨w.heap.size, 1, none⟩ = some (.slice A1 rs.length c1))
      (first | exact HS0.out | exact SK5.out | exact SK6.out | exact SK7.out)
      ((first
        | (go_at_call 20; refine (HEv.out w3.drew RG3.out).mono ?_; rintro e w5 ⟨rfl, hb⟩; have B5 := Lib.hid (BD.out.trans (hb.mono BD.out.size)); have SK5 := Lib.hid (HK.out w5 B5.out); have RG5 := Lib.hid (RG3.out.up hb); have R5 := Lib.hid ((R3.out.up BD.out).up hb); clear hb)
        | (go_at_call 22; refine (HG.out w5 R5.out).mono ?_; rintro e wq ⟨rfl, rfl⟩)
        | (go_at_call 21; refine (HWn.out w5 RG5.out).mono ?_; rintro e w6 ⟨rfl, hb⟩; have B6 := Lib.hid (B5.out.trans (hb.mono B5.out.size)); have SK6 := Lib.hid (HK.out w6 B6.out); have RG6 := Lib.hid (RG5.out.up hb); have R6 := Lib.hid ((R5.out.up (Below.refl _ _)).up hb); clear hb)
        | (go_at_call 23; refine (HL.out w6).mono ?_; rintro e w7 ⟨A7, c7, rfl, hc7, hf7, hr7, hb⟩; have B7 := Lib.hid (B6.out.trans (hb.mono B6.out.size)); have SK7 := Lib.hid (HK.out w7 B7.out); have F7 := Lib.hid (hf7.le B6.out.size); have R7 := Lib.hid hr7; clear hb hf7 hr7)))
    go_wp2_with fail
    go_ret2
    exact ⟨A7, c7, rfl, hc7, F7.out.le B3.out.size, R7.out, B3.out.trans (B7.out.mono B3.out.size)⟩
  · rw [if_neg hE]
    generalize askE g.G L = E at *
    have hb1 : (E == 0) = false := by simpa using hE
    have hb2' : (E != 0) = true := by simpa using hE
    clear hr hf hq hn hb hr1 hb2 HC hE
    unfold Gv.v at HCh ⊢
    generalize g.G = G at *
    obtain ⟨A0, c0, own, A1, c1, rs⟩ := g
    simp only at hW p0 p1 q0 q1 HCh ⊢
    go_enter Try.func10, Try.ntmps10
    go_wp2_with fail
    refine (HCh.out).mono ?_
    rintro e w3 ⟨rfl, hb⟩
    have B3 := Lib.hid (B2.out.trans (hb.mono B2.out.size))
    clear hb
    go_wp2_with fail
    go_ret2
    exact ⟨none, 0, rfl, by decide, fresh_nil w, .inl rfl, B3.out⟩
end Go.Proofs.Ytldepjpalhmpnaa

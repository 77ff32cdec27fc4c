/-
  Sets that shrink: the walks of kept, Keeps, Again of both sides. Conditions: the game and the set can be read.
-/
import Derived.Test.YtldepjpalhmpnaaLu20
namespace Go.Proofs.Ytldepjpalhmpnaa
open Go.RowKit
set_option linter.unusedVariables false

def kepL (G : Gm) (L : List Int) : List Int := if askE G L = 0 then lst (kpN G (gatN L)) else []
def agaL (G : Gm) (L : List Int) : List Int := if askE G L = 0 then lst (agN G (gatN L)) else []
set_option maxRecDepth 4000 in
set_option maxHeartbeats 1600000 in
theorem Keeps_any (g : Gv) (A : Option Addr) (c : Nat) (L : List Int) (w : World) (hr : RdG w w.heap.size g) (hf : Gfit g) (hq : Rd w w.heap.size A (ints L)) (hn : L.length ≤ 9223372036854775807) :
    Calls Try.prog 12 #[g.v, .slice A L.length c] w (MadeIE w (kepL g.G L) (askE g.G L)) := by
  obtain ⟨W, hW, p0, p1, hz, hb, hr1⟩ := box_game w g 25 hr
  have R1 := Lib.hid (hq.up hb)
  have B0 := Lib.hid hb
  obtain ⟨W2, hW2, hb2, HC⟩ := ask_one g A c L W hr1 hf R1.out hn
  have B2 := Lib.hid (hb.trans (hb2.mono hb.size))
  have HCh := Lib.hid HC
  have RG2 := Lib.hid (hr1.up hb2)
  have R2 := Lib.hid (R1.out.up hb2)
  have q0 := cell_keep p0 hb2 hz
  have q1 := cell_keep p1 hb2 hz
  have hz2 : w.heap.size < W2.heap.size := Nat.lt_of_lt_of_le hz hb2.size
  unfold kepL
  by_cases hE : askE g.G L = 0
  · rw [if_pos hE, hE]
    rw [hE] at HCh
    obtain ⟨hG0, hs⟩ := askE_zero hE
    have h16 : g.G.own.length ≤ 16 := (gE_zero hG0).le
    have hg : gatN L < 2 ^ g.G.own.length := gat_lt hs (by omega)
    have hp := p16 h16
    have HG := Lib.hid (fun w h => gather_any A c L g.own.length w h hn hs (show ((g.own.length : Nat) : Int) ≤ 31 by have e : g.G.own = g.own := rfl; rw [e] at h16; omega))
    have HS := Lib.hid (fun b w h q0 q1 hb => shrinkK_any g b (gatN L) w h hf hG0 q0 q1 hb (kp_mono g.G) (kp_sub g.G _) hg)
    have hx : kpN g.G (gatN L) < 4294967296 := Nat.lt_of_lt_of_le (kp_lt hg) (by omega)
    have HL := Lib.hid (fun w => list_any (kpN g.G (gatN L)) w hx)
    have HKN := Lib.hid (show itr (kpF g.G) (gatN L) g.own.length = kpN g.G (gatN L) from rfl)
    rw [HKN.out] at HS
    clear hx
    clear hr hf hq hn hb hr1 hb2 HC hE hG0 hs h16 hg hp
    unfold Gv.v at HCh  ⊢
    generalize kpN g.G (gatN L) = K at *
    generalize g.G = G at *
    obtain ⟨A0, c0, own, A1, c1, rs⟩ := g
    simp only at hW p0 p1 q0 q1 HCh  HS ⊢
    go_enter Try.func12, Try.ntmps12
    go_wp2_with fail
    refine (HCh.out).mono ?_
    rintro e w3 ⟨rfl, hb⟩
    have B3 := Lib.hid (B2.out.trans (hb.mono B2.out.size))
    have RG3 := Lib.hid (RG2.out.up hb)
    have R3 := Lib.hid (R2.out.up hb)
    have r0 := cell_keep q0 hb hz2
    have r1 := cell_keep q1 hb hz2
    have hz3 : w.heap.size < w3.heap.size := Nat.lt_of_lt_of_le hz2 hb.size
    clear hb q0 q1 p0 p1 hW hW2
    go_wp2_with fail
    refine (HG.out w3 R3.out).mono ?_
    rintro e w' ⟨rfl, rfl⟩
    go_wp2_with fail
    refine (HS.out w.heap.size w3 RG3.out r0 r1 hz3).mono ?_
    rintro e w4 ⟨rfl, hb⟩
    have B4 := Lib.hid (B3.out.trans (hb.mono B3.out.size))
    clear hb
    go_wp2_with fail
    refine (HL.out w4).mono ?_
    rintro e w6 ⟨A6, c6, rfl, hc6, hf6, hr6, hb6⟩
    have F6 := Lib.hid (hf6.le B4.out.size)
    have R6 := Lib.hid hr6
    have B6 := Lib.hid (B4.out.trans (hb6.mono B4.out.size))
    clear hf6 hr6 hb6
    go_wp2_with fail
    go_ret2
    exact ⟨A6, c6, rfl, hc6, F6.out, R6.out, B6.out⟩
  · rw [if_neg hE]
    generalize askE g.G L = E at *
    have hb1 : (E == 0) = false := by simpa using hE
    have hb2' : (E != 0) = true := by simpa using hE
    clear hr hf hq hn hb hr1 hb2 HC hE
    unfold Gv.v at HCh ⊢
    generalize g.G = G at *
    obtain ⟨A0, c0, own, A1, c1, rs⟩ := g
    simp only at hW p0 p1 q0 q1 HCh ⊢
    go_enter Try.func12, Try.ntmps12
    go_wp2_with fail
    refine (HCh.out).mono ?_
    rintro e w3 ⟨rfl, hb⟩
    have B3 := Lib.hid (B2.out.trans (hb.mono B2.out.size))
    clear hb
    go_wp2_with fail
    go_ret2
    exact ⟨none, 0, rfl, by decide, fresh_nil w, .inl rfl, B3.out⟩
end Go.Proofs.Ytldepjpalhmpnaa

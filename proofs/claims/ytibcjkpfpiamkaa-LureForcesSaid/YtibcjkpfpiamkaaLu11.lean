/-
  Games: the walk of Before of package lure. Conditions: the game and the set can be read.
-/
import Derived.Test.YtibcjkpfpiamkaaLu10
import Derived.Deep.RegionHeld3
namespace Go.Proofs.Ytibcjkpfpiamkaa
open Go.RowKit
set_option linter.unusedVariables false

theorem ask_one (g : Gv) (A : Option Addr) (c : Nat) (L : List Int) (W : World) (hr : RdG W W.heap.size g) (hf : Gfit g) (hq : Rd W W.heap.size A (ints L)) (hn : L.length ≤ 9223372036854775807) :
    ∃ W2, W.alloc (.cells #[.slice A L.length c] 22) = W2 ∧ Below W.heap.size W W2 ∧
      Calls Try.prog 47 #[g.v, .slice (some ⟨W.heap.size, 0, none⟩) 1 1] W2 fun e w' => e = .returned (.int .i64 (askE g.G L)) ∧ Below W2.heap.size W2 w' := by
  have hb : Below W.heap.size W (W.alloc (.cells #[.slice A L.length c] 22)) := (Below.refl _ _).alloc (Nat.le_refl _) _
  have h1 : Rd (W.alloc (.cells #[.slice A L.length c] 22)) (W.alloc (.cells #[.slice A L.length c] 22)).heap.size (some ⟨W.heap.size, 0, none⟩) [(⟨A, c, L⟩ : Rw).v] := Rd.lit W [.slice A L.length c] 22
  have hR : RdR (W.alloc (.cells #[.slice A L.length c] 22)) (W.alloc (.cells #[.slice A L.length c] 22)).heap.size (some ⟨W.heap.size, 0, none⟩) [⟨A, c, L⟩] :=
    ⟨h1, fun r hr => by
      rw [List.mem_singleton] at hr
      subst hr
      exact hq.up hb⟩
  have h := check_any g (some ⟨W.heap.size, 0, none⟩) 1 [⟨A, c, L⟩] _ (hr.up hb) hf hR (fun r hr => by
    rw [List.mem_singleton] at hr
    subst hr
    exact hn) (by simp)
  rw [show [(⟨A, c, L⟩ : Rw)].map (·.l) = [L] from rfl, chkE_one] at h
  exact ⟨_, rfl, hb, h⟩
/-- The cells of the box of a game. -/
def InBox (w w' : World) (A0 : Option Addr) (c0 n0 : Nat) (A1 : Option Addr) (c1 n1 : Nat) : Prop := w'.cell? ⟨w.heap.size, 0, none⟩ = some (.slice A0 n0 c0) ∧ w'.cell? ⟨w.heap.size, 1, none⟩ = some (.slice A1 n1 c1)
def befL (G : Gm) (L : List Int) : List Int := if askE G L = 0 then lst (fcN G 0 (gatN L)) else []
set_option maxRecDepth 4000 in
set_option maxHeartbeats 1600000 in
theorem Before_any (g : Gv) (A : Option Addr) (c : Nat) (L : List Int) (w : World) (hr : RdG w w.heap.size g) (hf : Gfit g) (hq : Rd w w.heap.size A (ints L)) (hn : L.length ≤ 9223372036854775807) :
    Calls Try.prog 17 #[g.v, .slice A L.length c] w (MadeIE w (befL g.G L) (askE g.G L)) := by
  obtain ⟨W, hW, p0, p1, hz, hb, hr1⟩ := box_game w g 25 hr
  have R1 := Lib.hid (hq.up hb)
  have RG := Lib.hid hr1
  have B0 := Lib.hid hb
  obtain ⟨W2, hW2, hb2, HC⟩ := ask_one g A c L W hr1 hf R1.out hn
  have B2 := Lib.hid (hb.trans (hb2.mono hb.size))
  have HCh := Lib.hid HC
  have RG2 := Lib.hid (hr1.up hb2)
  have R2 := Lib.hid (R1.out.up hb2)
  have q0 := cell_keep p0 hb2 hz
  have q1 := cell_keep p1 hb2 hz
  have hz2 : w.heap.size < W2.heap.size := Nat.lt_of_lt_of_le hz hb2.size
  unfold befL
  by_cases hE : askE g.G L = 0
  · rw [if_pos hE, hE]
    rw [hE] at HCh
    obtain ⟨hG0, hs⟩ := askE_zero hE
    have HG := Lib.hid (fun w h => gather_any A c L g.own.length w h hn hs (by have := (gE_zero hG0).le; have e : g.G.own = g.own := rfl; rw [e] at this; omega))
    have HF := Lib.hid (fun w h => forced_any g 0 (gatN L) w h hf hG0 (bit32 _))
    have hx : fcN g.G 0 (gatN L) < 4294967296 := by
      have h1 := fcN_lt g.G 0 (gatN L)
      have h2 : 2 ^ g.G.own.length ≤ 2 ^ 16 := Nat.pow_le_pow_right (by omega) (gE_zero hG0).le
      omega
    have HL := Lib.hid (fun w => list_any (fcN g.G 0 (gatN L)) w hx)
    clear hr hf hq hn hb hr1 hb2 HC hE hG0 hs hx
    unfold Gv.v at HCh HF ⊢
    generalize fcN g.G 0 (gatN L) = X at *
    generalize g.G = G at *
    obtain ⟨A0, c0, own, A1, c1, rs⟩ := g
    simp only at hW p0 p1 q0 q1 HCh HF ⊢
    go_enter Try.func17, Try.ntmps17
    go_wp2_with fail
    refine (HCh.out).mono ?_
    rintro e w3 ⟨rfl, hb⟩
    have B3 := Lib.hid (B2.out.trans (hb.mono B2.out.size))
    have RG3 := Lib.hid ((RG2.out.up hb).up (Below.refl w3.heap.size w3).drew)
    have R3 := Lib.hid (R2.out.up hb)
    have HK := Lib.hid (fun (w5 : World) (h : Below w3.heap.size w3 w5) => And.intro (cell_keep (cell_keep q0 hb hz2) h (Nat.lt_of_lt_of_le hz2 hb.size)) (cell_keep (cell_keep q1 hb hz2) h (Nat.lt_of_lt_of_le hz2 hb.size)))
    have HS0 := Lib.hid (HK.out w3.drew ((Below.refl _ w3).drew))
    clear hb q0 q1 p0 p1 hW hW2
    go_wp2_with fail
    go_region_held3 (fun w' => w'.cell? ⟨w.heap.size, 0, none⟩ = some (.slice A0 own.length c0) ∧ w'.cell? ⟨w.heap.size, 1, none⟩ = some (.slice A1 rs.length c1))
      (first | exact HS0.out | exact SK2.out | exact SK.out)
      ((first
        | (go_at_call 49; refine (HG.out w3.drew R3.out).mono ?_; rintro e w5 ⟨rfl, rfl⟩)
        | (go_at_call 48; refine (HF.out w3.drew RG3.out).mono ?_; rintro e w5 ⟨rfl, hb⟩; have B5 := Lib.hid ((Below.refl w3.heap.size w3).drew.trans hb); have SK := Lib.hid (HK.out w5 B5.out); clear hb)
        | (go_at_call 50; refine (HL.out w5).mono ?_; rintro e w6 ⟨A6, c6, rfl, hc6, hf6, hr6, hb6⟩; have B6 := Lib.hid (B5.out.trans (hb6.mono B5.out.size)); have SK2 := Lib.hid (HK.out w6 B6.out); have F6 := Lib.hid hf6; have R6 := Lib.hid hr6; clear hb6 hf6 hr6)))
    go_wp2_with fail
    go_ret2
    exact ⟨A6, c6, rfl, hc6, F6.out.le (Nat.le_trans B3.out.size B5.out.size), R6.out, B3.out.trans (B6.out.mono B3.out.size)⟩
  · rw [if_neg hE]
    generalize askE g.G L = E at *
    have hb1 : (E == 0) = false := by simpa using hE
    have hb2' : (E != 0) = true := by simpa using hE
    clear hr hf hq hn hb hr1 hb2 HC hE
    unfold Gv.v at HCh ⊢
    generalize g.G = G at *
    obtain ⟨A0, c0, own, A1, c1, rs⟩ := g
    simp only at hW p0 p1 q0 q1 HCh ⊢
    go_enter Try.func17, Try.ntmps17
    go_wp2_with fail
    refine (HCh.out).mono ?_
    rintro e w3 ⟨rfl, hb⟩
    have B3 := Lib.hid (B2.out.trans (hb.mono B2.out.size))
    clear hb
    go_wp2_with fail
    go_ret2
    exact ⟨none, 0, rfl, by decide, fresh_nil w, .inl rfl, B3.out⟩
end Go.Proofs.Ytibcjkpfpiamkaa

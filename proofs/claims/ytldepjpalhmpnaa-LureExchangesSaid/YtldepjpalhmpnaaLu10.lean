/-
  Ranks: the walks of wins of package lure, of ranks of the reference. Conditions: the game is one and can be read.
-/
import Derived.Test.YtldepjpalhmpnaaLu9
namespace Go.Proofs.Ytldepjpalhmpnaa
open Go.RowKit
set_option linter.unusedVariables false

theorem num_won {G : Gm} {goal : Nat} (hg : goal < 2 ^ G.own.length) (h16 : G.own.length ≤ 16) : numN (rkL G goal) 16 = wonN G goal := by
  have h := num_rk (G := G) hg 16
  have e : ((16 : Nat) : Int) = 16 := rfl
  rw [e] at h
  rw [h]
  exact lv_end hg (by omega)
set_option maxRecDepth 4000 in
set_option maxHeartbeats 1600000 in
theorem wins_any (g : Gv) (goal : Nat) (w : World) (hr : RdG w w.heap.size g) (hf : Gfit g) (hE : gE g.G = 0) (hg : goal < 2 ^ g.own.length) :
    Calls Try.prog 21 #[g.v, .int .u32 goal] w fun e w' => e = .returned (.int .u32 (wonN g.G goal : Nat)) ∧ Below w.heap.size w w' := by
  obtain ⟨W, hl⟩ := laid_of w g hr hf hE
  have LA := Lib.hid hl
  have hn16 := hl.le
  have HB := Lib.hid (fun w h => ranksOf_any g goal w h hf hE hg)
  have HNum := Lib.hid (num_won (G := g.G) hg hn16)
  have hlen : (rkL g.G goal).length = g.own.length := rkL_len g.G goal
  clear hr hf hE hl hg
  unfold Gv.v at HB ⊢
  generalize g.G = G at *
  obtain ⟨A0, c0, own, A1, c1, rs⟩ := g
  simp only at LA HB hn16 hlen ⊢
  have hW := LA.out.hW
  have p0 := LA.out.p0
  have p1 := LA.out.p1
  have B0 := Lib.hid LA.out.b
  generalize wonN G goal = WN at *
  generalize rkL G goal = R at *
  have HN := Lib.hid (fun A c w h => numbered_any A c R 16 w h (by omega))
  rw [HNum.out] at HN
  clear hlen
  go_enter Try.func21, Try.ntmps21
  go_wp2_with fail
  refine (HB.out W LA.out.rg).mono ?_
  rintro e w2 ⟨A2, c2, rfl, hc2, hf2, hr2, hb2⟩
  have R2 := Lib.hid hr2
  have B2 := Lib.hid (B0.out.trans (hb2.mono B0.out.size))
  clear hr2 hb2 hf2
  go_wp2_with fail
  refine (HN.out A2 c2 w2 R2.out).mono ?_
  rintro e w' ⟨rfl, rfl⟩
  go_wp2_with fail
  go_ret
  exact ⟨rfl, B2.out⟩
/-- The smallest number of moves found so far. -/
def inr (rk m n : Int) : Int := if 0 ≤ rk ∧ m ≤ n then max rk m else -1
theorem inr_start {rk n : Int} : inr rk (n + 1) n = -1 := if_neg (by omega)
theorem inr_hit {rk m n : Int} (h : 0 ≤ rk ∧ rk ≤ m) (hm : m ≤ n) : m = inr rk m n := by
  unfold inr
  rw [if_pos ⟨h.1, hm⟩]
  omega
theorem inr_miss {rk m n : Int} (h : ¬ (0 ≤ rk ∧ rk ≤ m)) (hr : rk < n) : inr rk (m + 1) n = inr rk m n := by
  unfold inr
  by_cases h0 : 0 ≤ rk
  · by_cases h1 : m + 1 ≤ n
    · rw [if_pos ⟨h0, h1⟩, if_pos ⟨h0, by omega⟩]; omega
    · omega
  · rw [if_neg (by omega), if_neg (by omega)]
theorem inr_end {rk n : Int} (h : -1 ≤ rk) (hn : 0 ≤ n) : inr rk 0 n = rk := by
  unfold inr
  by_cases h0 : 0 ≤ rk
  · rw [if_pos ⟨h0, hn⟩]; omega
  · rw [if_neg (by omega)]; omega
end Go.Proofs.Ytldepjpalhmpnaa

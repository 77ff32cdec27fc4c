/-
  Ranks: the walks of wins of package lure, of ranks of the reference. Conditions: the game is one and can be read.
-/
import Derived.Test.YtibcjkpfpiamkaaLu9
namespace Go.Proofs.Ytibcjkpfpiamkaa
open Go.RowKit
set_option linter.unusedVariables false

theorem num_won {G : Gm} {goal : Nat} (hg : goal < 2 ^ G.own.length) (h16 : G.own.length ≤ 16) : numN (rkL G goal) 16 = wonN G goal := by
  have h := num_rk (G := G) hg 16
  have e : ((16 : Nat) : Int) = 16 := rfl
  rw [e] at h
  rw [h]
  exact lv_end hg (by omega)
set_option maxRecDepth 4000 in
set_option maxHeartbeats 1600000 in
theorem wins_any (g : Gv) (goal : Nat) (w : World) (hr : RdG w w.heap.size g) (hf : Gfit g) (hE : gE g.G = 0) (hg : goal < 2 ^ g.own.length) :
    Calls Try.prog 60 #[g.v, .int .u32 goal] w fun e w' => e = .returned (.int .u32 (wonN g.G goal : Nat)) ∧ Below w.heap.size w w' := by
  obtain ⟨W, hl⟩ := laid_of w g hr hf hE
  have LA := Lib.hid hl
  have hn16 := hl.le
  have HB := Lib.hid (fun w h => ranksOf_any g goal w h hf hE hg)
  have HNum := Lib.hid (num_won (G := g.G) hg hn16)
  have hlen : (rkL g.G goal).length = g.own.length := rkL_len g.G goal
  clear hr hf hE hl hg
  unfold Gv.v at HB ⊢
  generalize g.G = G at *
  obtain ⟨A0, c0, own, A1, c1, rs⟩ := g
  simp only at LA HB hn16 hlen ⊢
  have hW := LA.out.hW
  have p0 := LA.out.p0
  have p1 := LA.out.p1
  have B0 := Lib.hid LA.out.b
  generalize wonN G goal = WN at *
  generalize rkL G goal = R at *
  have HN := Lib.hid (fun A c w h => numbered_any A c R 16 w h (by omega))
  rw [HNum.out] at HN
  clear hlen
  go_enter Try.func60, Try.ntmps60
  go_wp2_with fail
  refine (HB.out W LA.out.rg).mono ?_
  rintro e w2 ⟨A2, c2, rfl, hc2, hf2, hr2, hb2⟩
  have R2 := Lib.hid hr2
  have B2 := Lib.hid (B0.out.trans (hb2.mono B0.out.size))
  clear hr2 hb2 hf2
  go_wp2_with fail
  refine (HN.out A2 c2 w2 R2.out).mono ?_
  rintro e w' ⟨rfl, rfl⟩
  go_wp2_with fail
  go_ret
  exact ⟨rfl, B2.out⟩
/-- The smallest number of moves found so far. -/
def inr (rk m n : Int) : Int := if 0 ≤ rk ∧ m ≤ n then max rk m else -1
theorem inr_start {rk n : Int} : inr rk (n + 1) n = -1 := if_neg (by omega)
theorem inr_hit {rk m n : Int} (h : 0 ≤ rk ∧ rk ≤ m) (hm : m ≤ n) : m = inr rk m n := by
  unfold inr
  rw [if_pos ⟨h.1, hm⟩]
  omega
theorem inr_miss {rk m n : Int} (h : ¬ (0 ≤ rk ∧ rk ≤ m)) (hr : rk < n) : inr rk (m + 1) n = inr rk m n := by
  unfold inr
  by_cases h0 : 0 ≤ rk
  · by_cases h1 : m + 1 ≤ n
    · rw [if_pos ⟨h0, h1⟩, if_pos ⟨h0, by omega⟩]; omega
    · omega
  · rw [if_neg (by omega), if_neg (by omega)]
theorem inr_end {rk n : Int} (h : -1 ≤ rk) (hn : 0 ≤ n) : inr rk 0 n = rk := by
  unfold inr
  by_cases h0 : 0 ≤ rk
  · rw [if_pos ⟨h0, hn⟩]; omega
  · rw [if_neg (by omega)]; omega
set_option maxRecDepth 4000 in
set_option maxHeartbeats 1600000 in
theorem rranks_any (g : Gv) (goal : Nat) (w : World) (hr : RdG w w.heap.size g) (hf : Gfit g) (hE : gE g.G = 0) (hg : goal < 2 ^ g.own.length) :
    Calls Try.prog 59 #[g.v, .int .i64 goal] w (MadeI w (rkL g.G goal)) := by
  obtain ⟨W, hl⟩ := laid_of w g hr hf hE
  have LA := Lib.hid hl
  have hn16 := hl.le
  have HB := Lib.hid (fun m w h => reached_any g goal m w h hf hE hg)
  have HIff := Lib.hid (fun p k => rk_iff (G := g.G) hg p k)
  have HLt := Lib.hid (fun k => lv_32 (G := g.G) hg hl.le k)
  have HGe := Lib.hid (fun p => rk_ge (G := g.G) (goal := goal) p)
  have HRl := Lib.hid (fun p => rk_lt (G := g.G) (goal := goal) p)
  have HE := Lib.hid (show rkL g.G goal = (List.range g.own.length).map (rkI g.G goal) from rfl)
  have e : g.G.own = g.own := rfl
  rw [e] at HRl
  clear hr hf hE hl hg e
  unfold Gv.v at HB ⊢
  generalize g.G = G at *
  obtain ⟨A0, c0, own, A1, c1, rs⟩ := g
  simp only at LA HB HE HRl hn16 ⊢
  have hW := LA.out.hW
  have p0 := LA.out.p0
  have p1 := LA.out.p1
  have B0 := Lib.hid LA.out.b
  go_enter Try.func59, Try.ntmps59
  go_wp2_with fail
  clear hW
  go_loopw [5, 6] (fun v i wr => ∃ (k : Nat) (A9 : Option Addr) (c9 : Nat), k ≤ own.length ∧ i = .int .i64 k ∧ v = .slice A9 k c9 ∧ wr.ownsRow W.heap.size 3 1 v k (ints ((List.range k).map (rkI G goal))) ∧ Below W.heap.size W wr) (fun _ i _ => own.length - (intOf i).toNat)
  case atStart => exact ⟨0, none, 0, by omega, rfl, rfl, World.ownsRow_nil _ _ _ _, Below.refl _ _⟩
  case round =>
    obtain ⟨p, A9, c9, hp, rfl, rfl, hown, hb⟩ := hrel
    obtain ⟨wo, rfl⟩ : ∃ wo : World, wo = wr := ⟨_, rfl⟩
    have O := Lib.hid hown
    have BW := Lib.hid hb
    have q0 := cell_keep p0 hb LA.out.hz
    have q1 := cell_keep p1 hb LA.out.hz
    clear hown hb
    by_cases hlt : p < own.length
    · have hrk1 := HRl.out p
      have HGp := Lib.hid (HGe.out p)
      have HIp := Lib.hid (fun k => HIff.out p k)
      have HAp := Lib.hid (show ints ((List.range p).map (rkI G goal)) ++ [.int .i64 (rkI G goal p)] = ints ((List.range (p + 1)).map (rkI G goal)) by rw [List.range_succ, List.map_append, ints_append]; rfl)
      generalize rkI G goal p = rk at *
      go_wp2_with fail
      go_loopw [7, 8] (fun v i wr => ∃ m : Nat, m ≤ own.length + 1 ∧ i = .int .i64 ((m : Int) - 1) ∧ v = .int .i64 (inr rk m own.length) ∧ Below wo.heap.size wo wr) (fun _ i _ => (intOf i + 1).toNat)
      case atStart => exact ⟨own.length + 1, by omega, by congr 1; omega, by rw [show (((own.length + 1 : Nat) : Int)) = (own.length : Int) + 1 by omega, inr_start], Below.refl _ _⟩
      case round =>
        obtain ⟨m, hm, rfl, rfl, hb⟩ := hrel
        have BV := Lib.hid hb
        have r0 := cell_keep q0 hb (Nat.lt_of_lt_of_le LA.out.hz BW.out.size)
        have r1 := cell_keep q1 hb (Nat.lt_of_lt_of_le LA.out.hz BW.out.size)
        clear hb
        cases m with
        | zero =>
          have HEnd := Lib.hid (inr_end HGp.out (show (0 : Int) ≤ own.length by omega))
          have e0 : decide ((0 : Int) ≤ ((0 : Nat) : Int) - 1) = false := rfl
          have O5 := Lib.hid (own_below O.out BV.out)
          have B5 := Lib.hid (BW.out.trans (BV.out.mono BW.out.size))
          have e2 : inr rk ((0 : Nat) : Int) own.length = rk := HEnd.out
          rw [e2]
          clear e2
          go_wp2_with (at_builtin; refine app Try.eInt rfl _ _ rfl rfl (O5.out.alloc _) (B5.out.alloc B5.out.size _) (size_alloc' B5.out.size _) rfl (Rd.one wr (.int .i64 rk) 3 (Nat.lt_succ_self _)) (by simp) (ints_one [rk]) (p + 1) rfl (by omega) ?_; intro A4 c4 w4 o4 b4 _ _; have O4 := Lib.hid o4; have B4 := Lib.hid b4; clear o4 b4)
          go_roundw
          case rel => exact ⟨p + 1, A4, c4, by omega, by go_num, rfl, by rw [← HAp.out]; exact O4.out, B4.out⟩
          case measure => simp [intOf]; omega
        | succ m =>
          have ei : ((m + 1 : Nat) : Int) - 1 = (m : Int) := by omega
          rw [ei]
          have e0 : decide ((0 : Int) ≤ (m : Int)) = true := by rw [decide_eq_true_eq]; omega
          have eb := shr_bit (lv G goal (m + 1)) p (by have := HLt.out (m + 1); omega)
          have HIm := Lib.hid (HIp.out m)
          have HQ := Lib.hid (fun w h => HB.out m w h)
          generalize lv G goal (m + 1) = S at *
          have b0 : (0 : Int) ≤ (p : Int) := by omega
          have b1 : (p : Int) < 64 := by omega
          cases hq : S.testBit p
          · have HN := Lib.hid (inr_miss (rk := rk) (m := (m : Int)) (n := (own.length : Int)) (fun h => by rw [HIm.out.2 h] at hq; cases hq) hrk1)
            rw [hq] at eb
            clear hq
            go_wp2_with fail
            refine (HQ.out wr (LA.out.rg.up (BW.out.trans (BV.out.mono BW.out.size)))).mono ?_
            rintro e w2 ⟨rfl, hb⟩
            have B2 := Lib.hid (BV.out.trans (hb.mono BV.out.size))
            clear hb
            go_wp2_with fail
            go_roundw
            case rel => exact ⟨m, by omega, by go_num, by rw [← HN.out]; first | done | rfl, B2.out⟩
            case measure => first | (simp [intOf]; done) | (simp [intOf]; omega)
          · have HN := Lib.hid (inr_hit (rk := rk) (m := (m : Int)) (n := (own.length : Int)) (HIm.out.1 hq) (by omega))
            rw [hq] at eb
            clear hq
            go_wp2_with fail
            refine (HQ.out wr (LA.out.rg.up (BW.out.trans (BV.out.mono BW.out.size)))).mono ?_
            rintro e w2 ⟨rfl, hb⟩
            have B2 := Lib.hid (BV.out.trans (hb.mono BV.out.size))
            clear hb
            go_wp2_with fail
            go_roundw
            case rel => exact ⟨m, by omega, by go_num, by rw [← HN.out], B2.out⟩
            case measure => first | (simp [intOf]; done) | (simp [intOf]; omega)
    · have hks : p = own.length := by omega
      subst hks
      have hown := O.out
      obtain ⟨A8, c8, he, hc8⟩ := own_form hown
      have hc : own.length ≤ c9 := by injection he with h1 h2 h3; omega
      have hlen : (rkL G goal).length = own.length := by rw [HE.out]; simp
      have HLen := Lib.hid hlen
      clear hown he hlen
      go_wp2_with fail
      go_ret
      exact ⟨A9, c9, by rw [HLen.out]; rfl, by rw [HLen.out]; exact hc, own_fresh O.out (Nat.le_of_lt LA.out.hz), by rw [HE.out]; exact Rd.of_own O.out, B0.out.trans (BW.out.mono B0.out.size)⟩
end Go.Proofs.Ytibcjkpfpiamkaa

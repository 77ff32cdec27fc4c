/-
  The search for pays and balances: the walks of Compare and Or of the library, of compare, leaves. Conditions: numbers that are not too great.
-/
import Derived.Test.YtfmhanpibgmgfaaPub
import Derived.Deep.RegionHeld3
namespace Go.Proofs.Ytfmhanpibgmgfaa
open Go.RowKit
set_option linter.unusedVariables false

def cmpF (a b : Int) : Int := if a < b then -1 else if b < a then 1 else 0
def orF (x y : Int) : Int := if x = 0 then y else x
set_option maxRecDepth 4000 in
theorem isNaN_any (a : Int) (w : World) : Calls Try.prog 117 #[.int .i64 a] w fun e w' => e = .returned (.bool false) ∧ w = w' := by
  have e1 : (a != a) = false := by simp
  go_enter Try.func117, Try.ntmps117
  go_wp2_with fail
  go_ret
  exact ⟨by first | rfl | (rw [e1] <;> rfl), rfl⟩
set_option maxRecDepth 4000 in
theorem Compare_any (a b : Int) (w : World) : Calls Try.prog 116 #[.int .i64 a, .int .i64 b] w fun e w' => e = .returned (.int .i64 (cmpF a b)) ∧ w = w' := by
  have H := Lib.hid isNaN_any
  by_cases h1 : a < b
  · have e1 : decide (a < b) = true := decide_eq_true h1
    have HX := Lib.hid (show cmpF a b = -1 from if_pos h1)
    clear h1
    go_enter Try.func116, Try.ntmps116
    go_wp2_with fail
    refine (H.out _ w).mono ?_
    rintro e w' ⟨rfl, rfl⟩
    go_wp2_with fail
    refine (H.out _ w).mono ?_
    rintro e w' ⟨rfl, rfl⟩
    go_wp2_with fail
    go_ret
    exact ⟨by rw [HX.out] <;> rfl, rfl⟩
  · have e1 : decide (a < b) = false := decide_eq_false h1
    by_cases h2 : b < a
    · have e2 : decide (b < a) = true := decide_eq_true h2
      have HX := Lib.hid (show cmpF a b = 1 by unfold cmpF; rw [if_neg h1, if_pos h2])
      clear h1 h2
      go_enter Try.func116, Try.ntmps116
      go_wp2_with fail
      refine (H.out _ w).mono ?_
      rintro e w' ⟨rfl, rfl⟩
      go_wp2_with fail
      refine (H.out _ w).mono ?_
      rintro e w' ⟨rfl, rfl⟩
      go_wp2_with fail
      go_ret
      exact ⟨by rw [HX.out] <;> rfl, rfl⟩
    · have e2 : decide (b < a) = false := decide_eq_false h2
      have HX := Lib.hid (show cmpF a b = 0 by unfold cmpF; rw [if_neg h1, if_neg h2])
      clear h1 h2
      go_enter Try.func116, Try.ntmps116
      go_wp2_with fail
      refine (H.out _ w).mono ?_
      rintro e w' ⟨rfl, rfl⟩
      go_wp2_with fail
      refine (H.out _ w).mono ?_
      rintro e w' ⟨rfl, rfl⟩
      go_wp2_with fail
      go_ret
      exact ⟨by rw [HX.out] <;> rfl, rfl⟩
set_option maxRecDepth 4000 in
theorem Or_any (x y : Int) (b : Nat) (w : World) (h0 : w.cell? ⟨b, 0, none⟩ = some (.int .i64 x)) (h1 : w.cell? ⟨b, 1, none⟩ = some (.int .i64 y)) :
    Calls Try.prog 115 #[.slice (some ⟨b, 0, none⟩) 2 2] w fun e w' => e = .returned (.int .i64 (orF x y)) ∧ w = w' := by
  by_cases hx : x = 0
  · subst hx
    by_cases hy : y = 0
    · subst hy
      go_enter Try.func115, Try.ntmps115
      go_wp2_with fail
      go_loop [8] (fun z => ∃ k : Nat, k ≤ 2 ∧ z = .int .i64 (k : Int)) (fun z => 2 - (intOf z).toNat)
      case atStart => exact ⟨0, by omega, rfl⟩
      case round =>
        obtain ⟨k, hk, rfl⟩ := hrel
        rcases (show k = 0 ∨ k = 1 ∨ k = 2 by omega) with rfl | rfl | rfl
        · go_wp2_with fail
          go_round
          case rel => exact ⟨1, by omega, rfl⟩
          case measure => simp [intOf]
        · go_wp2_with fail
          go_round
          case rel => exact ⟨2, by omega, rfl⟩
          case measure => simp [intOf]
        · go_wp2_with fail
          go_ret
          exact ⟨rfl, rfl⟩
    · have e1 : (y != 0) = true := by simpa using hy
      have HX := Lib.hid (show orF 0 y = y from if_pos rfl)
      go_enter Try.func115, Try.ntmps115
      go_wp2_with fail
      go_loop [8] (fun z => ∃ k : Nat, k ≤ 1 ∧ z = .int .i64 (k : Int)) (fun z => 2 - (intOf z).toNat)
      case atStart => exact ⟨0, by omega, rfl⟩
      case round =>
        obtain ⟨k, hk, rfl⟩ := hrel
        rcases (show k = 0 ∨ k = 1 by omega) with rfl | rfl
        · go_wp2_with fail
          go_round
          case rel => exact ⟨1, by omega, rfl⟩
          case measure => simp [intOf]
        · go_wp2_with fail
          go_ret
          exact ⟨by rw [HX.out] <;> rfl, rfl⟩
  · have e1 : (x != 0) = true := by simpa using hx
    have HX := Lib.hid (show orF x y = x from if_neg hx)
    go_enter Try.func115, Try.ntmps115
    go_wp2_with fail
    go_loop [8] (fun z => z = .int .i64 0) (fun z => 2 - (intOf z).toNat)
    case atStart => exact rfl
    case round =>
      obtain rfl := hrel
      go_wp2_with fail
      go_ret
      exact ⟨by rw [HX.out] <;> rfl, rfl⟩
/-- Which of two groups has no weight left first. -/
def cmpS (R : Nat → Nat → Int) (ch : Nat → Int) (l1 k j g : Nat) : Int := orF (cmpF (R k l1 * R j g) (R j l1 * R k g)) (cmpF (ch k) (ch j))
set_option maxRecDepth 8000 in
set_option maxHeartbeats 16000000 in
theorem compare_any {B ps n L : Nat} {den : Int} {ch : Nat → Int} {R : Nat → Nat → Int} {E : Nat → Int} (k j g : Nat) (hk : k < n) (hj : j < n) (hg : g < L) (hn : n ≤ 5) (hL0 : 1 ≤ L) (hL : L ≤ 32) (hsm : ∀ k p, k < n → p < L → Sm (R k p)) (w : World) (h : StP w B ps n L den ch R E) :
    Calls Try.prog 114 #[.pointer (some ⟨ps, 0, none⟩), .int .i64 (k : Int), .int .i64 (j : Int), .int .i64 (g : Int)] w fun e w' => e = .returned (.int .i64 (cmpS R ch (L - 1) k j g)) ∧ Below w.heap.size w w' := by
  have HWk := Lib.hid (fun w (h : Nonempty (StP w B ps n L den ch R E)) => (weight_any k hk hn hL0 hL w (Classical.choice h)).mono (R' := fun e w' => e = .returned (.int .i64 (R k (L - 1))) ∧ Below w.heap.size w w') fun e w' ⟨h1, m, h2⟩ => ⟨h1, by rw [h2]; exact bdN' (Below.refl _ _) m⟩)
  have HWj := Lib.hid (fun w (h : Nonempty (StP w B ps n L den ch R E)) => (weight_any j hj hn hL0 hL w (Classical.choice h)).mono (R' := fun e w' => e = .returned (.int .i64 (R j (L - 1))) ∧ Below w.heap.size w w') fun e w' ⟨h1, m, h2⟩ => ⟨h1, by rw [h2]; exact bdN' (Below.refl _ _) m⟩)
  have HUp := fun (w5 : World) (hb : Below w.heap.size w w5) => Nonempty.intro (h.up hb)
  obtain ⟨gc, cc, gp, cp, ge, ce, curc, curp, G, C, hs, hc, hcv, hp, hpv, hgr, he, d1, d2, d3, d4, d5, d6, bs, bc, bp⟩ := h
  have c1 : w.cell? ⟨ps, 1, none⟩ = some (.slice (some ⟨gc, 0, none⟩) n cc) := blk_cell hs
  have c2 : w.cell? ⟨ps, 2, none⟩ = some (.slice (some ⟨gp, 0, none⟩) n cp) := blk_cell hs
  have c4 : w.cell? ⟨gp, k, none⟩ = some (.slice (some ⟨G k, 0, none⟩) L (C k)) := (blk_cell hp).trans (hpv k hk)
  have c5 : w.cell? ⟨gp, j, none⟩ = some (.slice (some ⟨G j, 0, none⟩) L (C j)) := (blk_cell hp).trans (hpv j hj)
  have c6 : w.cell? ⟨G k, g, none⟩ = some (.int .i64 (R k g)) := (blk_cell (hgr k hk).1).trans (rowF_at hg)
  have c7 : w.cell? ⟨G j, g, none⟩ = some (.int .i64 (R j g)) := (blk_cell (hgr j hj).1).trans (rowF_at hg)
  have c8 : w.cell? ⟨gc, k, none⟩ = some (.int .i64 (ch k)) := (blk_cell hc).trans (hcv k hk)
  have c9 : w.cell? ⟨gc, j, none⟩ = some (.int .i64 (ch j)) := (blk_cell hc).trans (hcv j hj)
  have b0 : (0 : Int) ≤ (k : Int) := by omega
  have b1 : (k : Int) < (n : Int) := by omega
  have b2 : (0 : Int) ≤ (j : Int) := by omega
  have b3 : (j : Int) < (n : Int) := by omega
  have b4 : (0 : Int) ≤ (g : Int) := by omega
  have b5 : (g : Int) < (L : Int) := by omega
  have HX := Lib.hid (show cmpS R ch (L - 1) k j g = orF (cmpF (R k (L - 1) * R j g) (R j (L - 1) * R k g)) (cmpF (ch k) (ch j)) from rfl)
  have m1 := sm_mul (hsm k (L - 1) hk (by omega)) (hsm j g hj hg)
  have m2 := sm_mul (hsm j (L - 1) hj (by omega)) (hsm k g hk hg)
  generalize cmpS R ch (L - 1) k j g = RES at *
  generalize R k (L - 1) = x1 at *
  generalize R j (L - 1) = x2 at *
  generalize R k g = y1 at *
  generalize R j g = y2 at *
  generalize ch k = z1 at *
  generalize ch j = z2 at *
  have q1 : IntKind.i64.wrap (x1 * y2) = x1 * y2 := wrapI_mid (by unfold Mid; omega)
  have q2 : IntKind.i64.wrap (x2 * y1) = x2 * y1 := wrapI_mid (by unfold Mid; omega)
  have HC1 := Lib.hid (fun w => Compare_any (x1 * y2) (x2 * y1) w)
  have HC2 := Lib.hid (fun w => Compare_any z1 z2 w)
  have HOr := Lib.hid (fun b w h0 h1 => Or_any (cmpF (x1 * y2) (x2 * y1)) (cmpF z1 z2) b w h0 h1)
  rw [← HX.out] at HOr
  generalize cmpF (x1 * y2) (x2 * y1) = r1 at *
  generalize cmpF z1 z2 = r2 at *
  generalize G k = gk at *
  generalize G j = gj at *
  generalize C k = ck at *
  generalize C j = cj at *
  have HK := Lib.hid (fun (w5 : World) (hb : Below w.heap.size w w5) => show (w5.cell? ⟨ps, 1, none⟩ = some (.slice (some ⟨gc, 0, none⟩) n cc) ∧ w5.cell? ⟨ps, 2, none⟩ = some (.slice (some ⟨gp, 0, none⟩) n cp) ∧ w5.cell? ⟨gp, k, none⟩ = some (.slice (some ⟨gk, 0, none⟩) L ck) ∧ w5.cell? ⟨gp, j, none⟩ = some (.slice (some ⟨gj, 0, none⟩) L cj)) ∧ (w5.cell? ⟨gk, g, none⟩ = some (.int .i64 y1) ∧ w5.cell? ⟨gj, g, none⟩ = some (.int .i64 y2) ∧ w5.cell? ⟨gc, k, none⟩ = some (.int .i64 z1) ∧ w5.cell? ⟨gc, j, none⟩ = some (.int .i64 z2)) from
    have ck' := fun {p : Addr} {v : Value} (hc : w.cell? p = some v) => (hb.cell (p := p) (World.block_lt_of_cell? w _ hc)).trans hc
    ⟨⟨ck' c1, ck' c2, ck' c4, ck' c5⟩, ⟨ck' c6, ck' c7, ck' c8, ck' c9⟩⟩)
  have HU := Lib.hid HUp
  have BD := Lib.hid ((Below.refl w.heap.size w).drew)
  have HS0 := Lib.hid (HK.out w.drew BD.out)
  clear hs hc hcv hp hpv hgr he d1 d2 d3 d4 d5 d6 bs bc bp c1 c2 c4 c5 c6 c7 c8 c9 hsm m1 m2 HUp HX
  go_enter Try.func114, Try.ntmps114
  go_wp2_with fail
  go_region_held3 (fun w' => (w'.cell? ⟨ps, 1, none⟩ = some (.slice (some ⟨gc, 0, none⟩) n cc) ∧ w'.cell? ⟨ps, 2, none⟩ = some (.slice (some ⟨gp, 0, none⟩) n cp) ∧ w'.cell? ⟨gp, k, none⟩ = some (.slice (some ⟨gk, 0, none⟩) L ck) ∧ w'.cell? ⟨gp, j, none⟩ = some (.slice (some ⟨gj, 0, none⟩) L cj)) ∧ (w'.cell? ⟨gk, g, none⟩ = some (.int .i64 y1) ∧ w'.cell? ⟨gj, g, none⟩ = some (.int .i64 y2) ∧ w'.cell? ⟨gc, k, none⟩ = some (.int .i64 z1) ∧ w'.cell? ⟨gc, j, none⟩ = some (.int .i64 z2)))
    (first | exact HS0.out | exact SK5.out | exact SK6.out | exact SK7.out)
    ((first
      | (go_at_call 103; first
          | (with_reducible refine (HWk.out w.drew (HU.out _ BD.out)).mono ?_; rintro e w5 ⟨rfl, hb⟩; have B5 := Lib.hid (BD.out.trans (hb.mono BD.out.size)); have SK5 := Lib.hid (HK.out w5 B5.out); clear hb)
          | (with_reducible refine (HWj.out w.drew (HU.out _ BD.out)).mono ?_; rintro e w5 ⟨rfl, hb⟩; have B5 := Lib.hid (BD.out.trans (hb.mono BD.out.size)); have SK5 := Lib.hid (HK.out w5 B5.out); clear hb)
          | (with_reducible refine (HWk.out w5 (HU.out _ B5.out)).mono ?_; rintro e w6 ⟨rfl, hb⟩; have B6 := Lib.hid (B5.out.trans (hb.mono B5.out.size)); have SK6 := Lib.hid (HK.out w6 B6.out); have SK7 := Lib.hid (HK.out (w6.alloc (.cells #[.int .i64 r1, .int .i64 r2] 3)) (B6.out.alloc B6.out.size _)); clear hb)
          | (with_reducible refine (HWj.out w5 (HU.out _ B5.out)).mono ?_; rintro e w6 ⟨rfl, hb⟩; have B6 := Lib.hid (B5.out.trans (hb.mono B5.out.size)); have SK6 := Lib.hid (HK.out w6 B6.out); have SK7 := Lib.hid (HK.out (w6.alloc (.cells #[.int .i64 r1, .int .i64 r2] 3)) (B6.out.alloc B6.out.size _)); clear hb))
      | (go_at_call 116; first
          | (with_reducible refine (HC1.out _).mono ?_; rintro e w7 ⟨rfl, rfl⟩)
          | (with_reducible refine (HC2.out _).mono ?_; rintro e w7 ⟨rfl, rfl⟩))
      | (go_at_call 115; refine (HOr.out w6.heap.size (w6.alloc (.cells #[.int .i64 r1, .int .i64 r2] 3)) (cell_of_row _ _ _ _ _ _ (heap_alloc_new w6 _)) (cell_of_row _ _ _ _ _ _ (heap_alloc_new w6 _))).mono ?_; rintro e w7 ⟨rfl, rfl⟩)))
  all_goals (
    go_wp2_with fail
    go_ret
    exact ⟨rfl, B6.out.alloc B6.out.size _⟩)
end Go.Proofs.Ytfmhanpibgmgfaa

/-
  The chance of at most so many: the walks of atMost, upTo of the reference. Condition: numbers of birds, marked and caught not above birds.
-/
import Derived.Test.YtegehfcnclpdeabDoorCb8
namespace Go.Proofs.YtegehfcnclpdeabDoor
open Go.RowKit
set_option linter.unusedVariables false

theorem Rd.go {w w' : World} {A : Option Addr} {xs : List Value} (h : Rd w w.heap.size A xs) (hb : Below w.heap.size w w') : Rd w' w'.heap.size A xs := (h.below hb (Nat.le_refl _)).more hb.size
/-- The chance of fewer than k. -/
def amN (b m c k : Nat) : Nat × Nat := fr (upW b m c k) (ch b c)
set_option maxRecDepth 4000 in
set_option maxHeartbeats 4000000 in
theorem atMost_any (b m c k : Nat) (hb : b ≤ 60) (hm : m ≤ b) (hc : c ≤ b) (hk : k ≤ 61) (w : World) :
    Calls Tryd.prog 21 #[.agg (rc b m c ((k : Int) - 1))] w fun e w' => e = .returned (ratV (amN b m c k)) ∧ Below w.heap.size w w' := by
  obtain ⟨W, hW, hS, hg, hz, hB⟩ := box_rr w b m c ((k : Int) - 1)
  have HW := Lib.hid hW
  have HUp := Lib.hid (fun w => upToAgain_any b m c k hk w)
  have HSm := Lib.hid (fun A cp w h => sumRc_any b m c k hb hm hc hk A cp w h)
  unfold waysV at HSm
  have l1 := upW_le (c := c) hm k
  have l2 := ch_small hb c
  have HF := Lib.hid (fun w => fraction_any (upW b m c k) (ch b c) (by omega) (by omega) (ch_pos hc) w)
  have HE := Lib.hid (show amN b m c k = fr (upW b m c k) (ch b c) from rfl)
  obtain ⟨a, haq⟩ : ∃ a : Int, a = (k : Int) - 1 := ⟨_, rfl⟩
  rw [← haq] at HW hS HUp ⊢
  have HCh : Hid (∀ w, Calls Tryd.prog 36 #[.agg (rc b m c a)] w fun e w' => e = .returned (.int .i64 (ch b c : Nat)) ∧ Below w.heap.size w w') := Lib.hid (fun w => choicesI_any b m c a hb w)
  generalize fr (upW b m c k) (ch b c) = q at *
  obtain ⟨q1, q2⟩ := q
  generalize upW b m c k = x at *
  generalize ch b c = y at *
  have HK := Lib.hid (fun (w5 : World) (h : Below W.heap.size W w5) => show w5.cell? ⟨w.heap.size, 0, none⟩ = some (.int .i64 (b : Int)) ∧ w5.cell? ⟨w.heap.size, 1, none⟩ = some (.int .i64 (m : Int)) ∧ w5.cell? ⟨w.heap.size, 2, none⟩ = some (.int .i64 (c : Int)) ∧ w5.cell? ⟨w.heap.size, 3, none⟩ = some (.int .i64 a) from
    ⟨cell_keep hS.1 h (by omega), cell_keep hS.2.1 h (by omega), cell_keep hS.2.2.1 h (by omega), cell_keep hS.2.2.2 h (by omega)⟩)
  have HK2 := Lib.hid (fun (w5 : World) (h : Below W.heap.size W w5) => show let w6 := (w5.setCell ⟨w.heap.size + 1, 0, none⟩ (.int .i64 (q1 : Int))).setCell ⟨w.heap.size + 1, 1, none⟩ (.int .i64 (q2 : Int)); w6.cell? ⟨w.heap.size, 0, none⟩ = some (.int .i64 (b : Int)) ∧ w6.cell? ⟨w.heap.size, 1, none⟩ = some (.int .i64 (m : Int)) ∧ w6.cell? ⟨w.heap.size, 2, none⟩ = some (.int .i64 (c : Int)) ∧ w6.cell? ⟨w.heap.size, 3, none⟩ = some (.int .i64 a) from
    have k := put2_below (B := w.heap.size + 1) (w := w5) (W := w5) (g := w.heap.size + 1) (.int .i64 (q1 : Int)) (.int .i64 (q2 : Int)) (Below.refl _ _) (Nat.le_refl _) (by have := h.size; omega)
    have t := HK.out w5 h
    ⟨cell_keep t.1 k (Nat.lt_succ_self _), cell_keep t.2.1 k (Nat.lt_succ_self _), cell_keep t.2.2.1 k (Nat.lt_succ_self _), cell_keep t.2.2.2 k (Nat.lt_succ_self _)⟩)
  have HS0 := Lib.hid (HK.out W.drew ((Below.refl _ W).drew))
  have BD := Lib.hid ((Below.refl W.heap.size W).drew)
  have HP := Lib.hid (fun (w5 : World) (h : Below W.heap.size W w5) => put2 ((h.block (w.heap.size + 1) (by omega)).trans hg) (.int .i64 (q1 : Int)) (.int .i64 (q2 : Int)))
  have HZ := Lib.hid (fun (w5 : World) (h : Below W.heap.size W w5) => put2_below (W := w5) (g := w.heap.size + 1) (.int .i64 (q1 : Int)) (.int .i64 (q2 : Int)) (hB.trans (h.mono hB.size)) (by omega) (by have := h.size; omega))
  clear hW hS hg hz l1 l2 hb hm hc hB hk haq
  unfold ratV at HF
  go_enter Tryd.func21, Tryd.ntmps21
  go_wp2_with fail
  rw [HW.out]
  go_region_held3 (fun w' => w'.cell? ⟨w.heap.size, 0, none⟩ = some (.int .i64 (b : Int)) ∧ w'.cell? ⟨w.heap.size, 1, none⟩ = some (.int .i64 (m : Int)) ∧ w'.cell? ⟨w.heap.size, 2, none⟩ = some (.int .i64 (c : Int)) ∧ w'.cell? ⟨w.heap.size, 3, none⟩ = some (.int .i64 a))
    (first | exact HS0.out | exact SK5.out | exact SK6.out | exact SK7.out | exact SK8.out | exact SK9.out)
    ((first
      | (go_at_call 35; first
          | (refine (HUp.out W.drew).mono ?_; rintro e w5 ⟨A', c', rfl, hr, hb⟩; have RU := Lib.hid hr; have B5 := Lib.hid (BD.out.trans (hb.mono BD.out.size)); have SK5 := Lib.hid (HK.out w5 B5.out); clear hb hr)
          | (refine (HUp.out w5).mono ?_; rintro e w6 ⟨A', c', rfl, hr, hb⟩; have RU := Lib.hid hr; have B6 := Lib.hid (B5.out.trans (hb.mono B5.out.size)); have SK6 := Lib.hid (HK.out w6 B6.out); clear hb hr))
      | (go_at_call 34; first
          | (refine (HSm.out A' c' w5 RU.out).mono ?_; rintro e w6 ⟨rfl, hb⟩; have B6 := Lib.hid (B5.out.trans (hb.mono B5.out.size)); have SK6 := Lib.hid (HK.out w6 B6.out); clear hb)
          | (refine (HSm.out A' c' w6 RU.out).mono ?_; rintro e w7 ⟨rfl, hb⟩; have B7 := Lib.hid (B6.out.trans (hb.mono B6.out.size)); have SK7 := Lib.hid (HK.out w7 B7.out); clear hb))
      | (go_at_call 36; first
          | (refine (HCh.out W.drew).mono ?_; rintro e w5 ⟨rfl, hb⟩; have B5 := Lib.hid (BD.out.trans (hb.mono BD.out.size)); have SK5 := Lib.hid (HK.out w5 B5.out); clear hb)
          | (refine (HCh.out w5).mono ?_; rintro e w6 ⟨rfl, hb⟩; (have RU := Lib.hid (RU.out.go hb)); have B6 := Lib.hid (B5.out.trans (hb.mono B5.out.size)); have SK6 := Lib.hid (HK.out w6 B6.out); clear hb)
          | (refine (HCh.out w6).mono ?_; rintro e w7 ⟨rfl, hb⟩; have B7 := Lib.hid (B6.out.trans (hb.mono B6.out.size)); have SK7 := Lib.hid (HK.out w7 B7.out); clear hb))
      | (go_at_call 19; refine (HF.out w7).mono ?_; rintro e w8 ⟨rfl, hb⟩; have B8 := Lib.hid (B7.out.trans (hb.mono B7.out.size)); have SK8 := Lib.hid (HK.out w8 B8.out); have SK9 := Lib.hid (HK2.out w8 B8.out); obtain ⟨d0, f0, d1, f1, HR⟩ := HP.out w8 B8.out; clear hb)))
  have BZ := Lib.hid (HZ.out w8 B8.out)
  have HRR := Lib.hid HR.out
  go_wp2_with fail
  (try simp only [Exit.inBlock, Exit.then])
  refine bodyPost_ret (v := .agg #[.int .i64 (q1 : Int), .int .i64 (q2 : Int)]) (results_cell_row rfl _ _ (w.heap.size + 1) 31 _ _ _ rfl HRR.out Tryd.underlying31 rfl sizeRat) rfl ⟨?_, BZ.out⟩
  rw [HE.out]; rfl
end Go.Proofs.YtegehfcnclpdeabDoor

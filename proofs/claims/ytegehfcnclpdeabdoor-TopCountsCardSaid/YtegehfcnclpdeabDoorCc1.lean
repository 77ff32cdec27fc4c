/-
  The most likely recapture: the walks of compare and MaxFunc. Condition: numbers of birds that fit; the list can be read.
-/
import Derived.Test.YtegehfcnclpdeabDoorCb9
namespace Go.Proofs.YtegehfcnclpdeabDoor
open Go.RowKit
set_option linter.unusedVariables false

theorem cmp_fr {a b c d : Nat} (hb : 0 < b) (hd : 0 < d) : cmpN ((fr a b).1 * (fr c d).2) ((fr c d).1 * (fr a b).2) = cmpN (a * d) (c * b) := by
  have h1 := fr_lt (a := a) (c := c) hb hd
  have h2 := fr_lt (a := c) (c := a) hd hb
  unfold cmpN
  by_cases k1 : a * d < c * b
  · rw [if_pos k1, if_pos (h1.2 k1)]
  · rw [if_neg k1, if_neg (fun h => k1 (h1.1 h))]
    by_cases k2 : c * b < a * d
    · rw [if_pos k2, if_pos (h2.2 k2)]
    · rw [if_neg k2, if_neg (fun h => k2 (h2.1 h))]
set_option maxRecDepth 4000 in
set_option maxHeartbeats 4000000 in
theorem compare_any (x n m c a : Nat) (hx : x ≤ 60) (hn : n ≤ 60) (hm : m ≤ 60) (hc : c ≤ 60) (ha : a ≤ 60) (hcx : c ≤ x) (hcn : c ≤ n) (w : World) :
    Calls Tryd.prog 17 #[.agg (rc x m c a), .agg (rc n m c a)] w fun e w' => e = .returned (.int .i64 (cmpN (wN x m c a * ch n c) (wN n m c a * ch x c))) ∧ Below w.heap.size w w' := by
  obtain ⟨a0, a1, a2, a3, hb0⟩ := box_rc w x m c a 47
  obtain ⟨b0, b1, b2, b3, hb1⟩ := box_rc (w.alloc (.cells (rc x m c a) 47)) n m c a 47
  have hs : (w.alloc (.cells (rc x m c a) 47)).heap.size = w.heap.size + 1 := by simp
  have hs2 : ((w.alloc (.cells (rc x m c a) 47)).alloc (.cells (rc n m c a) 47)).heap.size = w.heap.size + 2 := by simp
  rw [hs] at b0 b1 b2 b3
  have a0' := cell_up (o := .cells (rc n m c a) 47) a0
  have a1' := cell_up (o := .cells (rc n m c a) 47) a1
  have a2' := cell_up (o := .cells (rc n m c a) 47) a2
  have a3' := cell_up (o := .cells (rc n m c a) 47) a3
  have hB := hb0.trans (hb1.mono hb0.size)
  obtain ⟨W, hW⟩ : ∃ W, (w.alloc (.cells (rc x m c a) 47)).alloc (.cells (rc n m c a) 47) = W := ⟨_, rfl⟩
  rw [hW] at b0 b1 b2 b3 a0' a1' a2' a3' hB hs2
  have HW := Lib.hid hW
  have HX := Lib.hid (fun w => chance_any x m c a hx hm hc ha hcx w)
  have HN := Lib.hid (fun w => chance_any n m c a hn hm hc ha hcn w)
  have HE := Lib.hid (cmp_fr (a := wN x m c a) (b := ch x c) (c := wN n m c a) (d := ch n c) (ch_pos hcx) (ch_pos hcn))
  have l1 := fr_le (wN x m c a) (ch x c)
  have l2 := fr_le (wN n m c a) (ch n c)
  have l3 := wN_le (b := x) (m := m) (c := c) (a := a) hx
  have l4 := wN_le (b := n) (m := m) (c := c) (a := a) hn
  have l5 := ch_small hx c
  have l6 := ch_small hn c
  unfold chN at HX HN
  generalize fr (wN x m c a) (ch x c) = p at *
  generalize fr (wN n m c a) (ch n c) = q at *
  obtain ⟨p1, p2⟩ := p
  obtain ⟨q1, q2⟩ := q
  simp only at HE l1 l2
  have HC := Lib.hid (fun w => compareFractions_any p1 p2 q1 q2 (by omega) (by omega) (by omega) (by omega) w)
  rw [HE.out] at HC
  generalize cmpN (wN x m c a * ch n c) (wN n m c a * ch x c) = r at *
  unfold ratV at HX HN
  have HK := Lib.hid (fun (w5 : World) (h : Below W.heap.size W w5) => show (w5.cell? ⟨w.heap.size, 0, none⟩ = some (.int .i64 (x : Int)) ∧ w5.cell? ⟨w.heap.size, 1, none⟩ = some (.int .i64 (m : Int)) ∧ w5.cell? ⟨w.heap.size, 2, none⟩ = some (.int .i64 (c : Int)) ∧ w5.cell? ⟨w.heap.size, 3, none⟩ = some (.int .i64 (a : Int))) ∧ (w5.cell? ⟨w.heap.size + 1, 0, none⟩ = some (.int .i64 (n : Int)) ∧ w5.cell? ⟨w.heap.size + 1, 1, none⟩ = some (.int .i64 (m : Int)) ∧ w5.cell? ⟨w.heap.size + 1, 2, none⟩ = some (.int .i64 (c : Int)) ∧ w5.cell? ⟨w.heap.size + 1, 3, none⟩ = some (.int .i64 (a : Int))) from
    ⟨⟨cell_keep a0' h (by omega), cell_keep a1' h (by omega), cell_keep a2' h (by omega), cell_keep a3' h (by omega)⟩, ⟨cell_keep b0 h (by omega), cell_keep b1 h (by omega), cell_keep b2 h (by omega), cell_keep b3 h (by omega)⟩⟩)
  have HS0 := Lib.hid (HK.out W.drew ((Below.refl _ W).drew))
  have BD := Lib.hid ((Below.refl W.heap.size W).drew)
  have HB := Lib.hid hB
  clear hW hs hs2 a0 a1 a2 a3 a0' a1' a2' a3' b0 b1 b2 b3 hB hb0 hb1 l1 l2 l3 l4 l5 l6 hx hn hm hc ha hcx hcn HE
  go_enter Tryd.func17, Tryd.ntmps17
  go_wp2_with fail
  rw [HW.out]
  go_region_held3 (fun w' => (w'.cell? ⟨w.heap.size, 0, none⟩ = some (.int .i64 (x : Int)) ∧ w'.cell? ⟨w.heap.size, 1, none⟩ = some (.int .i64 (m : Int)) ∧ w'.cell? ⟨w.heap.size, 2, none⟩ = some (.int .i64 (c : Int)) ∧ w'.cell? ⟨w.heap.size, 3, none⟩ = some (.int .i64 (a : Int))) ∧ (w'.cell? ⟨w.heap.size + 1, 0, none⟩ = some (.int .i64 (n : Int)) ∧ w'.cell? ⟨w.heap.size + 1, 1, none⟩ = some (.int .i64 (m : Int)) ∧ w'.cell? ⟨w.heap.size + 1, 2, none⟩ = some (.int .i64 (c : Int)) ∧ w'.cell? ⟨w.heap.size + 1, 3, none⟩ = some (.int .i64 (a : Int))))
    (first | exact HS0.out | exact SK5.out | exact SK6.out | exact SK7.out)
    ((first
      | (go_at_call 32; first
          | (refine (HX.out W.drew).mono ?_; rintro e w5 ⟨rfl, hb⟩; have B5 := Lib.hid (BD.out.trans (hb.mono BD.out.size)); have SK5 := Lib.hid (HK.out w5 B5.out); clear hb)
          | (refine (HN.out W.drew).mono ?_; rintro e w5 ⟨rfl, hb⟩; have B5 := Lib.hid (BD.out.trans (hb.mono BD.out.size)); have SK5 := Lib.hid (HK.out w5 B5.out); clear hb)
          | (refine (HX.out w5).mono ?_; rintro e w6 ⟨rfl, hb⟩; have B6 := Lib.hid (B5.out.trans (hb.mono B5.out.size)); have SK6 := Lib.hid (HK.out w6 B6.out); clear hb)
          | (refine (HN.out w5).mono ?_; rintro e w6 ⟨rfl, hb⟩; have B6 := Lib.hid (B5.out.trans (hb.mono B5.out.size)); have SK6 := Lib.hid (HK.out w6 B6.out); clear hb))
      | (go_at_call 31; refine (HC.out w6).mono ?_; rintro e w7 ⟨rfl, hb⟩; have B7 := Lib.hid (B6.out.trans (hb.mono B6.out.size)); have SK7 := Lib.hid (HK.out w7 B7.out); clear hb)))
  all_goals (
    go_wp2_with fail
    go_ret
    exact ⟨rfl, HB.out.trans (B7.out.mono HB.out.size)⟩)
end Go.Proofs.YtegehfcnclpdeabDoor

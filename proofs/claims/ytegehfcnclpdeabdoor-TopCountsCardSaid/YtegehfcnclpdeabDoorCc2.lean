/-
  The first greatest one: the walk of MaxFunc over recaptures. Condition: numbers of birds that fit; the list can be read.
-/
import Derived.Test.YtegehfcnclpdeabDoorCc1
namespace Go.Proofs.YtegehfcnclpdeabDoor
open Go.RowKit
set_option linter.unusedVariables false

/-- Four cells, stored anew. -/
def set4 (W : World) (g : Nat) (a b c d : Value) : World := (((W.setCell ⟨g, 0, none⟩ a).setCell ⟨g, 1, none⟩ b).setCell ⟨g, 2, none⟩ c).setCell ⟨g, 3, none⟩ d
theorem put4 {W : World} {g : Nat} {x y z u : Value} {t : TypeId} (h : W.heap[g]? = some (.cells #[x, y, z, u] t (0, 0))) (a b c d : Value) :
    (W.cell? ⟨g, 0, none⟩ = some x ∧ W.frozen? ⟨g, 0, none⟩ = false) ∧ ((W.setCell ⟨g, 0, none⟩ a).cell? ⟨g, 1, none⟩ = some y ∧ (W.setCell ⟨g, 0, none⟩ a).frozen? ⟨g, 1, none⟩ = false) ∧
    (((W.setCell ⟨g, 0, none⟩ a).setCell ⟨g, 1, none⟩ b).cell? ⟨g, 2, none⟩ = some z ∧ ((W.setCell ⟨g, 0, none⟩ a).setCell ⟨g, 1, none⟩ b).frozen? ⟨g, 2, none⟩ = false) ∧
    ((((W.setCell ⟨g, 0, none⟩ a).setCell ⟨g, 1, none⟩ b).setCell ⟨g, 2, none⟩ c).cell? ⟨g, 3, none⟩ = some u ∧ (((W.setCell ⟨g, 0, none⟩ a).setCell ⟨g, 1, none⟩ b).setCell ⟨g, 2, none⟩ c).frozen? ⟨g, 3, none⟩ = false) ∧
    Hid ((set4 W g a b c d).heap[g]? = some (.cells #[a, b, c, d] t (0, 0))) := by
  have h1 := blk_set h 0 a
  have h2 := blk_set h1 1 b
  have h3 := blk_set h2 2 c
  exact ⟨⟨blk_cell h, blk_free h 0⟩, ⟨blk_cell h1, blk_free h1 1⟩, ⟨blk_cell h2, blk_free h2 2⟩, ⟨blk_cell h3, blk_free h3 3⟩, blk_set h3 3 d⟩
theorem put4_below {B : Nat} {w W : World} {g : Nat} (a b c d : Value) (h : Below B w W) (hg : B ≤ g) (hs : B ≤ W.heap.size) : Below B w (set4 W g a b c d) :=
  h.grown (((grown_setC W g 0 a).trans (grown_setC _ g 1 b)).trans ((grown_setC _ g 2 c).trans (grown_setC _ g 3 d))) hs fun q hq => by injection hq with hq; omega
theorem sizeRc : (Tryd.prog.info? 47).map (·.size) = some 4 := by kernel_rfl
/-- Which of the first recaptures of the list is the most likely one. -/
def bstN (n m c a : Nat) (k : Nat) : Nat := bst (fun n => wy n m c a) (fun n => ch n c) n k
theorem bst_go {n m c a k : Nat} (hm : m ≤ n) (hc : c ≤ n) :
    (0 < cmpN (wN (n + (k + 1)) m c a * ch (bstN n m c a k) c) (wN (bstN n m c a k) m c a * ch (n + (k + 1)) c) → bstN n m c a (k + 1) = n + (k + 1)) ∧
    (¬ 0 < cmpN (wN (n + (k + 1)) m c a * ch (bstN n m c a k) c) (wN (bstN n m c a k) m c a * ch (n + (k + 1)) c) → bstN n m c a (k + 1) = bstN n m c a k) := by
  obtain ⟨r1, r2⟩ := bst_range (fun n => wy n m c a) (fun n => ch n c) n k
  have e : bstN n m c a (k + 1) = if wy (bstN n m c a k) m c a * ch (n + k + 1) c < wy (n + k + 1) m c a * ch (bstN n m c a k) c then n + k + 1 else bstN n m c a k := rfl
  have r1' : n ≤ bstN n m c a k := r1
  rw [e, wN_fit (show m ≤ n + (k + 1) by omega) (show c ≤ n + (k + 1) by omega), wN_fit (show m ≤ bstN n m c a k by omega) (show c ≤ bstN n m c a k by omega)]
  unfold cmpN
  constructor
  · intro h
    split at h
    · omega
    · split at h
      · rename_i h2
        exact if_pos h2
      · omega
  · intro h
    split at h
    · rename_i h2
      exact if_neg (fun h3 => Nat.lt_asymm h2 h3)
    · split at h
      · omega
      · rename_i h1 h2
        exact if_neg h2
set_option maxRecDepth 4000 in
set_option maxHeartbeats 4000000 in
theorem MaxFunc_any (n m c a K : Nat) (hK : 1 ≤ K) (hn : n + K ≤ 61) (hmn : m ≤ n) (hcn : c ≤ n) (ha : a ≤ 60) (A : Option Addr) (cp : Nat) (w : World) (hr : Rd w w.heap.size A (wbC n m c a K)) :
    Calls Tryd.prog 16 #[.slice A K cp, .func (.func 17) #[] #[]] w fun e w' => e = .returned (.agg (rc (bstN n m c a (K - 1)) m c a)) ∧ Below w.heap.size w w' := by
  obtain ⟨b, o, hA, hbb, hcells⟩ := hr.rcs (f := fun (i : Nat) => rcC ((n + i : Nat) : Int) m c a) (fun i => rfl) 0 hK
  have HR := Lib.hid hr
  have HA := Lib.hid hA
  subst hA
  have k0 : w.cell? ⟨b, o, none⟩ = some (.int .i64 (n : Int)) := by have := hcells 0 _ rfl; simpa using this
  have k1 : w.cell? ⟨b, o + 1, none⟩ = some (.int .i64 (m : Int)) := by have := hcells 1 _ rfl; simpa using this
  have k2 : w.cell? ⟨b, o + 2, none⟩ = some (.int .i64 (c : Int)) := by have := hcells 2 _ rfl; simpa using this
  have k3 : w.cell? ⟨b, o + 3, none⟩ = some (.int .i64 (a : Int)) := by have := hcells 3 _ rfl; simpa using this
  have j0 := cell_up (o := .cells #[.int .i64 0, .int .i64 0, .int .i64 0, .int .i64 0] 47) k0
  have j1 := cell_up (o := .cells #[.int .i64 0, .int .i64 0, .int .i64 0, .int .i64 0] 47) k1
  have j2 := cell_up (o := .cells #[.int .i64 0, .int .i64 0, .int .i64 0, .int .i64 0] 47) k2
  have j3 := cell_up (o := .cells #[.int .i64 0, .int .i64 0, .int .i64 0, .int .i64 0] 47) k3
  have HBB := Lib.hid hbb
  have e0 : decide ((K : Int) < 1) = false := by simp; omega
  have e0' : decide (K < 1) = false := by simp; omega
  have p1 : (0 : Int) < (K : Int) := by omega
  clear k0 k1 k2 k3 hcells hr hbb
  go_enter Tryd.func16, Tryd.ntmps16
  go_wp2_with fail
  clear j0 j1 j2 j3 e0 e0' p1
  obtain ⟨W1, hW1, hg1, hs1, hb1⟩ := one_blk w #[.int .i64 0, .int .i64 0, .int .i64 0, .int .i64 0] 47
  obtain ⟨V, hV, hgV, hsV, hbV⟩ := one_blk W1 #[.int .i64 (n : Int), .int .i64 (m : Int), .int .i64 (c : Int), .int .i64 (a : Int)] 47
  rw [hW1, hV]
  have hz : W1.heap.size = w.heap.size + 1 := by rw [← hW1]; simp
  rw [hz] at hgV hsV hbV
  have HVB := Lib.hid (hb1.trans (hbV.mono (Nat.le_succ _)))
  have HGV := Lib.hid hgV
  have HG1 := Lib.hid ((hbV.block w.heap.size (Nat.lt_succ_self _)).trans hg1)
  have HSV := Lib.hid hsV
  clear hW1 hg1 hs1 hb1 hV hgV hsV hbV hz
  go_loopw [6] (fun i wr => ∃ (k : Nat), k + 1 ≤ K ∧ i = .int .i64 (k + 1 : Nat) ∧ wr.heap[w.heap.size + 1]? = some (.cells #[.int .i64 (bstN n m c a k : Nat), .int .i64 (m : Int), .int .i64 (c : Int), .int .i64 (a : Int)] 47 (0, 0)) ∧ Below (w.heap.size + 1) V wr) (fun i _ => K - (intOf i).toNat)
  case atStart => exact ⟨0, hK, rfl, HGV.out, Below.refl _ _⟩
  case round =>
    obtain ⟨k, hk, rfl, h1, h2⟩ := hrel
    have F1 := Lib.hid h1
    have B1 := Lib.hid h2
    obtain ⟨r1, r2⟩ := bst_range (fun n => wy n m c a) (fun n => ch n c) n k
    obtain ⟨y, hy⟩ : ∃ y, y = bstN n m c a k := ⟨_, rfl⟩
    have hyn : n ≤ y := by rw [hy]; exact r1
    have hyk : y ≤ n + k := by rw [hy]; exact r2
    clear r1 r2
    have HY := Lib.hid hy
    rw [← hy] at h1
    have y0 := (blk_cell (j := 0) h1).trans (show _ = some (.int .i64 (y : Int)) from rfl)
    have y1 := (blk_cell (j := 1) h1).trans (show _ = some (.int .i64 (m : Int)) from rfl)
    have y2 := (blk_cell (j := 2) h1).trans (show _ = some (.int .i64 (c : Int)) from rfl)
    have y3 := (blk_cell (j := 3) h1).trans (show _ = some (.int .i64 (a : Int)) from rfl)
    have hlt1 := lt_of_block h1
    by_cases hlt : k + 1 < K
    · have e1 : decide (((k + 1 : Nat) : Int) < (K : Int)) = true := by simp; omega
      obtain ⟨x, hx⟩ : ∃ x, x = n + (k + 1) := ⟨_, rfl⟩
      obtain ⟨q, hq⟩ : ∃ q, q = k + 1 := ⟨_, rfl⟩
      obtain ⟨b', o', hA', hbb', hcells⟩ := HR.out.rcs (f := fun (i : Nat) => rcC ((n + i : Nat) : Int) m c a) (fun i => rfl) q (by omega)
      injection hA' with hA'
      injection hA' with hA1 hA2
      subst hA1 hA2
      have bel : Below w.heap.size w wr := HVB.out.trans (h2.mono (Nat.le_succ _))
      have x0 : wr.cell? ⟨b, o + q * 4, none⟩ = some (.int .i64 (x : Int)) := cell_keep (by have := hcells 0 _ rfl; rw [hx, ← hq]; exact this) bel hbb'
      have x1 : wr.cell? ⟨b, o + q * 4 + 1, none⟩ = some (.int .i64 (m : Int)) := cell_keep (hcells 1 _ rfl) bel hbb'
      have x2 : wr.cell? ⟨b, o + q * 4 + 2, none⟩ = some (.int .i64 (c : Int)) := cell_keep (hcells 2 _ rfl) bel hbb'
      have x3 : wr.cell? ⟨b, o + q * 4 + 3, none⟩ = some (.int .i64 (a : Int)) := cell_keep (hcells 3 _ rfl) bel hbb'
      have HCm := Lib.hid (fun w => compare_any x y m c a (by omega) (by omega) (by omega) (by omega) ha (by omega) (by omega) w)
      have HGo := bst_go (n := n) (m := m) (c := c) (a := a) (k := k) hmn hcn
      rw [← hy, ← hx] at HGo
      generalize cmpN (wN x m c a * ch y c) (wN y m c a * ch x c) = r at *
      have HG := Lib.hid HGo
      have HX := Lib.hid hx
      have HQ := Lib.hid hq
      rw [← hq] at e1 ⊢
      have hq60 : q ≤ 60 := by omega
      clear h1 h2 hy hx hq hcells bel HGo hbb' hlt hk
      have q0 : (0 : Int) ≤ (q : Int) := by omega
      have q1 : (q : Int) < (K : Int) := of_decide_eq_true e1
      have hbl : b < wr.heap.size := Nat.lt_of_lt_of_le HBB.out (by omega)
      have HK := Lib.hid (fun (w5 : World) (h : Below wr.heap.size wr w5) => show (w5.cell? ⟨b, o + q * 4, none⟩ = some (.int .i64 (x : Int)) ∧ w5.cell? ⟨b, o + q * 4 + 1, none⟩ = some (.int .i64 (m : Int)) ∧ w5.cell? ⟨b, o + q * 4 + 2, none⟩ = some (.int .i64 (c : Int)) ∧ w5.cell? ⟨b, o + q * 4 + 3, none⟩ = some (.int .i64 (a : Int))) ∧ (w5.cell? ⟨w.heap.size + 1, 0, none⟩ = some (.int .i64 (y : Int)) ∧ w5.cell? ⟨w.heap.size + 1, 1, none⟩ = some (.int .i64 (m : Int)) ∧ w5.cell? ⟨w.heap.size + 1, 2, none⟩ = some (.int .i64 (c : Int)) ∧ w5.cell? ⟨w.heap.size + 1, 3, none⟩ = some (.int .i64 (a : Int))) from
        ⟨⟨cell_keep x0 h hbl, cell_keep x1 h hbl, cell_keep x2 h hbl, cell_keep x3 h hbl⟩, ⟨cell_keep y0 h hlt1, cell_keep y1 h hlt1, cell_keep y2 h hlt1, cell_keep y3 h hlt1⟩⟩)
      have HKB := Lib.hid (fun (w5 : World) (h : Below wr.heap.size wr w5) => (h.block _ hlt1).trans F1.out)
      rw [← HY.out] at HKB
      have HS0 := Lib.hid (HK.out wr.drew ((Below.refl _ wr).drew))
      have BD := Lib.hid ((Below.refl wr.heap.size wr).drew)
      have HL := Lib.hid hlt1
      clear hlt1 hbl x0 x1 x2 x3 y0 y1 y2 y3
      cases hr0 : decide ((0 : Int) < r)
      all_goals
        have HR0 := Lib.hid hr0
        go_wp2_with fail
        go_region_held3 (fun w' => (w'.cell? ⟨b, o + q * 4, none⟩ = some (.int .i64 (x : Int)) ∧ w'.cell? ⟨b, o + q * 4 + 1, none⟩ = some (.int .i64 (m : Int)) ∧ w'.cell? ⟨b, o + q * 4 + 2, none⟩ = some (.int .i64 (c : Int)) ∧ w'.cell? ⟨b, o + q * 4 + 3, none⟩ = some (.int .i64 (a : Int))) ∧ (w'.cell? ⟨w.heap.size + 1, 0, none⟩ = some (.int .i64 (y : Int)) ∧ w'.cell? ⟨w.heap.size + 1, 1, none⟩ = some (.int .i64 (m : Int)) ∧ w'.cell? ⟨w.heap.size + 1, 2, none⟩ = some (.int .i64 (c : Int)) ∧ w'.cell? ⟨w.heap.size + 1, 3, none⟩ = some (.int .i64 (a : Int))))
          (first | exact HS0.out | exact SK5.out)
          ((go_at_call 17; refine (HCm.out wr.drew).mono ?_; rintro e w5 ⟨rfl, hb⟩; have B5 := Lib.hid (BD.out.trans (hb.mono BD.out.size)); have SK5 := Lib.hid (HK.out w5 B5.out); clear hb))
      · clear hr0
        have HX2 := Lib.hid (HG.out.2 (by have := of_decide_eq_false HR0.out; omega))
        have F5 := Lib.hid (HKB.out w5 B5.out)
        have B6 := Lib.hid (B1.out.trans (B5.out.mono (by have := HL.out; omega)))
        go_wp2_with fail
        go_roundw
        case rel => exact ⟨k + 1, by have := HQ.out; omega, by have := HQ.out; rw [← this]; go_num, by rw [HX2.out]; exact F5.out, B6.out⟩
        case measure => simp [intOf]; omega
      · clear hr0
        have HX2 := Lib.hid (HG.out.1 (of_decide_eq_true HR0.out))
        obtain ⟨⟨x0, x1, x2, x3⟩, _⟩ := SK5.out
        obtain ⟨⟨f0, g0⟩, ⟨f1, g1⟩, ⟨f2, g2⟩, ⟨f3, g3⟩, HR4⟩ := put4 (HKB.out w5 B5.out) (.int .i64 (x : Int)) (.int .i64 (m : Int)) (.int .i64 (c : Int)) (.int .i64 (a : Int))
        have B6 := Lib.hid (put4_below (B := w.heap.size + 1) (g := w.heap.size + 1) (.int .i64 (x : Int)) (.int .i64 (m : Int)) (.int .i64 (c : Int)) (.int .i64 (a : Int)) (B1.out.trans (B5.out.mono (by have := HL.out; omega))) (Nat.le_refl _) (by have := HL.out; have := B5.out.size; omega))
        go_wp2_with fail
        go_roundw
        case rel => exact ⟨k + 1, by have := HQ.out; omega, by have := HQ.out; rw [← this]; go_num, by rw [HX2.out]; exact HR4.out, B6.out⟩
        case measure => simp [intOf]; omega
    · have hkk : k + 1 = K := by omega
      have e1 : decide (((k + 1 : Nat) : Int) < (K : Int)) = false := by simp; omega
      obtain ⟨q, hq⟩ : ∃ q, q = k + 1 := ⟨_, rfl⟩
      rw [← hq] at e1 ⊢
      have e2 : decide (q < K) = false := by simp; omega
      have HE := Lib.hid (show y = bstN n m c a (K - 1) by rw [← hkk]; exact HY.out)
      obtain ⟨⟨f0, g0⟩, ⟨f1, g1⟩, ⟨f2, g2⟩, ⟨f3, g3⟩, HR4⟩ := put4 ((h2.block w.heap.size (Nat.lt_succ_self _)).trans HG1.out) (.int .i64 (y : Int)) (.int .i64 (m : Int)) (.int .i64 (c : Int)) (.int .i64 (a : Int))
      have B6 := Lib.hid (put4_below (B := w.heap.size) (g := w.heap.size) (.int .i64 (y : Int)) (.int .i64 (m : Int)) (.int .i64 (c : Int)) (.int .i64 (a : Int)) (HVB.out.trans (h2.mono (Nat.le_succ _))) (Nat.le_refl _) (by omega))
      clear h1 h2 hy hkk hq hlt hk
      go_wp2_with fail
      (try simp only [Exit.inBlock, Exit.then])
      refine bodyPost_ret (v := .agg (rc y m c a)) (results_cell_row rfl _ _ w.heap.size 47 _ _ _ rfl HR4.out Tryd.underlying47 rfl sizeRc) rfl ⟨?_, B6.out⟩
      rw [HE.out]
end Go.Proofs.YtegehfcnclpdeabDoor

/-
  The walk of the law WindVeers: it returns true. Conditions: 'Tabs', and that the slice can be read.
-/
import Derived.Test.YtnnlbllkckakbaaDoorWi3
import Derived.Test.YtnnlbllkckakbaaDoorStp
import Derived.Deep.AppendLies
namespace Go.Proofs.YtnnlbllkckakbaaDoor
open Go.RowKit
set_option linter.unusedVariables false

theorem Tryd.eInt : Elem Tryd.prog 38 3 (.int .i64 0) 1 8 := ⟨Tryd.underlying38, by kernel_rfl, rfl, by decide, by decide⟩
theorem veer_round {l : List Int} {d : Int} (h : veerE l = 0) (h0 : l[0]? = some d) (hn : l.length < 60) : veerE (l ++ [d]) = 0 ∧ veerV (l ++ [d]) % 32 = 0 := by
  have hl : ¬ 60 < l.length := by omega
  have hall : l.all pt = true := by
    unfold veerE at h
    rw [if_neg hl] at h
    by_cases hp : l.all pt = true
    · exact hp
    · rw [if_neg hp] at h; cases h
  have hd : pt d = true := List.all_eq_true.1 hall d (List.mem_of_getElem? h0)
  have h1 : veerE (l ++ [d]) = 0 := by
    unfold veerE
    rw [if_neg (by simp; omega), if_pos]
    rw [List.all_append, hall]
    simp [hd]
  refine ⟨h1, ?_⟩
  unfold veerV
  rw [if_pos h1, vK_mod _ _ (by simp)]
  have hp : 0 < l.length := (List.getElem?_eq_some_iff.1 h0).1
  have e1 : (l ++ [d]).getD ((l ++ [d]).length - 1) 0 = d := by simp
  have e2 : (l ++ [d]).getD 0 0 = d := by
    rw [List.getD_eq_getElem?_getD, List.getElem?_append_left hp, h0]
    rfl
  rw [e1, e2]
  omega
theorem far_one {W w5 : World} {g : Nat} {u : Value} {vb : Option Nat} (hg : W.grownBy w5 vb) (h : W.cell? ⟨g, 0, none⟩ = some u) (hne : vb ≠ some g) : Rd w5 w5.heap.size (some ⟨g, 0, none⟩) [u] := by
  have hlt : g < W.heap.size := World.block_lt_of_cell? W _ h
  have hc := (hg.cell_far (a := ⟨g, 0, none⟩) hlt (Ne.symm hne)).trans h
  refine .inr ⟨g, 0, rfl, World.block_lt_of_cell? w5 _ hc, fun i v hi => ?_⟩
  match i, hi with
  | 0, hi => simp at hi; subst hi; exact hc
theorem one_at0 (w : World) (u : Value) (e : TypeId) : (w.alloc (.cells #[u] e)).cell? ⟨w.heap.size, 0, none⟩ = some u := cell_one_new w u e 0 u rfl
theorem one_at1 (w : World) (o : Obj) (u : Value) (e : TypeId) : ((w.alloc o).alloc (.cells #[u] e)).cell? ⟨w.heap.size + 1, 0, none⟩ = some u := by
  have h := one_at0 (w.alloc o) u e
  rwa [show (w.alloc o).heap.size = w.heap.size + 1 by simp] at h
theorem nb_ne {a b n c : Nat} (h : a ≠ b) : (Value.slice (some ⟨a, 0, none⟩) n c).ownBlock ≠ some b := by simpa [Value.ownBlock] using h
theorem own_lit1 (w : World) (o : Obj) {B : Nat} (e : TypeId) (size : Nat) (hB : B ≤ w.heap.size) : ((w.alloc o).alloc (.cells #[] e)).ownsRow B e size (.slice (some ⟨w.heap.size + 1, 0, none⟩) 0 0) 0 [] := by
  have h := own_lit (w.alloc o) e size (size_alloc' hB o)
  rwa [show (w.alloc o).heap.size = w.heap.size + 1 by simp] at h
theorem Veer_snoc (A : Option Addr) (c : Nat) (L : List Int) (n : Nat) (w : World) (hn : n = L.length) (hr : Rd w w.heap.size A (ints L)) (h : L.length ≤ 9223372036854775807) :
    Calls Tryd.prog 29 #[.slice A n c] w fun e w' => e = .returned (.tuple #[.int .i64 (veerV L), .int .i64 (veerE L)]) ∧ ∃ n, w' = w.drewN n := by
  subst hn
  exact Veer_any A c L w hr h
set_option maxHeartbeats 1600000 in
set_option maxRecDepth 100000 in
theorem WindVeers_walk (f t : Int) (A : Option Addr) (c : Nat) (l : List Int) (w : World) (hr : Rd w w.heap.size A (ints l)) (ht : Tabs w) (hm : l.length ≤ c) (hcm : c ≤ maxLen) :
    Calls Tryd.prog 6 #[.int .i64 f, .int .i64 t, .slice A l.length c] w fun e w' => e = .returned (.bool true) ∧ Below w.heap.size w w' := by
  have HT := Lib.hid ht
  have HR := Lib.hid hr
  clear ht hr
  unfold maxLen at hcm
  by_cases hn : (200 : Int) < (l.length : Int)
  · have hnb : decide ((200 : Int) < (l.length : Int)) = true := by simp; omega
    go_enter Tryd.func6, Tryd.ntmps6
    go_wp2_with fail
    refine (known_ok w HT.out).mono ?_
    rintro e w1 ⟨rfl, hb⟩
    have B1 := Lib.hid hb
    clear hb
    go_wp2_with fail
    go_ret
    exact ⟨rfl, B1.out⟩
  have hnb : decide ((200 : Int) < (l.length : Int)) = false := by simp; omega
  have C1 := Lib.hid (fun w => Across_any f t w)
  have C2 := Lib.hid (fun w => rAcross_any f t w)
  have C3 := Lib.hid (fun w h => Veer_any A c l w h (by omega))
  have C4 := Lib.hid (fun w h => rVeer_any A c l w h (by omega))
  generalize acrV f t = v at *
  generalize acrE f t = E at *
  by_cases hE : veerE l = 0 ∧ l.length ≠ 0 ∧ l.length ≠ 60
  · obtain ⟨hv, h0, h60⟩ := hE
    have hlt : l.length < 60 := by
      rcases Nat.lt_or_ge 60 l.length with h | h
      · unfold veerE at hv; rw [if_pos h] at hv; cases hv
      · omega
    have h0' : ((l.length : Int) == 0) = false := by simpa using h0
    have h60' : ((l.length : Int) == 60) = false := by simp; omega
    obtain ⟨b, o, d, rfl, hd, hc⟩ := HR.out.int 0 (by omega)
    rw [Nat.add_zero] at hc
    have HD := Lib.hid (veer_round hv hd.out hlt)
    rw [hv] at C3 C4
    have HN := Lib.hid hlt
    have hl0 : 0 < l.length := by omega
    generalize veerV l = V at *
    clear hv h0 h60 hnb
    have hnb : decide ((200 : Int) < (l.length : Int)) = false := by simp; omega
    have hbl : b < w.heap.size := World.block_lt_of_cell? w _ hc
    have D0 := Lib.hid (fun n => below_drewN (Below.refl w.heap.size w) n)
    have hcA : ∀ n X, ((w.drewN n).alloc X).cell? ⟨b, o, none⟩ = some (.int .i64 d) := fun n X => (((D0.out n).alloc (Nat.le_refl _) X).cell (p := ⟨b, o, none⟩) hbl).trans hc
    have LL := Lib.hid (show (ints l).length = l.length * 1 by simp [ints])
    have LB := Lib.hid (show l.length * 8 ≤ 140737488355328 by omega)
    have LB1 := Lib.hid (show (l.length + 1) * 8 ≤ 140737488355328 by omega)
    have hcl : 0 < c := by omega
    have C5 := Lib.hid (fun A c w (h : Rd w w.heap.size A (([] ++ ints l) ++ [.int .i64 d])) => Veer_snoc A c (l ++ [d]) (l.length + 1) w (by simp) (by rw [ints_append]; exact h) (by simp; omega))
    rw [HD.out.1] at C5
    have hmod := HD.out.2
    clear HD
    generalize veerV (l ++ [d]) = V2 at *
    have hz : V2.tmod 32 = 0 := Int.tmod_eq_zero_of_dvd (Int.dvd_of_emod_eq_zero hmod)
    clear hlt hmod
    go_enter Tryd.func6, Tryd.ntmps6
    go_wp2_with fail
    refine (C1.out w).mono ?_
    rintro e w' ⟨rfl, rfl⟩
    go_wp2_with fail
    refine (C2.out w).mono ?_
    rintro e w' ⟨rfl, rfl⟩
    go_wp2_with fail
    refine (C3.out w HR.out).mono ?_
    rintro e w' ⟨rfl, m1, rfl⟩
    go_wp2_with fail
    refine (C4.out (w.drewN m1) HR.out).mono ?_
    rintro e w' ⟨rfl, m2, rfl⟩
    go_wp2_with fail
    go_region_law (first
      | (refine step_app Tryd.eInt rfl (.tmp 75) (.tmp 76) rfl rfl (own_lit (B := w.heap.size) (w.drewN _) _ _ (Nat.le_refl _)) ((D0.out _).alloc (Nat.le_refl _) _) (size_alloc' (Nat.le_refl _) _) rfl (HR.out.below ((D0.out _).alloc (Nat.le_refl _) _) (Nat.le_refl _)) LL.out (ints_one l) l.length (Nat.zero_add _) LB.out ?_; (intro A5 c5 w5 o5 b5 g5 _; have O5 := Lib.hid o5; have B5 := Lib.hid b5; have hc5 := (b5.cell (p := ⟨b, o, none⟩) hbl).trans hc; clear o5 b5 g5))
      | (refine step_app Tryd.eInt rfl (.tmp 75) (.tmp 76) rfl rfl ((own_lit (B := w.heap.size) (w.drewN _) _ _ (Nat.le_refl _)).alloc _) (((D0.out _).alloc (Nat.le_refl _) _).alloc (size_alloc' (Nat.le_refl _) _) _) (size_alloc' (size_alloc' (Nat.le_refl _) _) _) rfl (HR.out.below (((D0.out _).alloc (Nat.le_refl _) _).alloc (size_alloc' (Nat.le_refl _) _) _) (Nat.le_refl _)) LL.out (ints_one l) l.length (Nat.zero_add _) LB.out ?_; (intro A5 c5 w5 o5 b5 g5 _; have O5 := Lib.hid o5; have B5 := Lib.hid b5; have hc5 := (b5.cell (p := ⟨b, o, none⟩) hbl).trans hc; have R5 := Lib.hid (far_one (g := w.heap.size + 1) (u := .int .i64 d) g5 (one_at1 _ _ _ _) (nb_ne (by omega))); clear o5 b5 g5))
      | (refine step_app Tryd.eInt rfl (.tmp 75) (.tmp 76) rfl rfl (own_lit1 (B := w.heap.size) (w.drewN _) _ _ _ (Nat.le_refl _)) (((D0.out _).alloc (Nat.le_refl _) _).alloc (size_alloc' (Nat.le_refl _) _) _) (size_alloc' (size_alloc' (Nat.le_refl _) _) _) rfl (HR.out.below (((D0.out _).alloc (Nat.le_refl _) _).alloc (size_alloc' (Nat.le_refl _) _) _) (Nat.le_refl _)) LL.out (ints_one l) l.length (Nat.zero_add _) LB.out ?_; (intro A5 c5 w5 o5 b5 g5 _; have O5 := Lib.hid o5; have B5 := Lib.hid b5; have hc5 := (b5.cell (p := ⟨b, o, none⟩) hbl).trans hc; have R5 := Lib.hid (far_one (g := w.heap.size) (u := .int .i64 d) g5 (cell_up (one_at0 _ _ _)) (nb_ne (by omega))); clear o5 b5 g5))
      | (refine step_app Tryd.eInt rfl (.tmp 77) (.tmp 81) rfl rfl O5.out B5.out B5.out.size rfl R5.out rfl (ints_one [d]) (l.length + 1) rfl LB1.out ?_; (intro A6 c6 w6 o6 b6 _ _; have R6 := Lib.hid (Rd.of_own o6); have B6 := Lib.hid b6; clear o6 b6))
      | (refine step_app Tryd.eInt rfl (.tmp 77) (.tmp 81) rfl rfl (O5.out.alloc _) (B5.out.alloc B5.out.size _) (size_alloc' B5.out.size _) rfl (Rd.one w5 (.int .i64 d) 3 (Nat.lt_succ_self _)) rfl (ints_one [d]) (l.length + 1) rfl LB1.out ?_; (intro A6 c6 w6 o6 b6 _ _; have R6 := Lib.hid (Rd.of_own o6); have B6 := Lib.hid b6; clear o6 b6))
      | (go_simp; go_at_call 29; refine (C5.out _ _ _ R6.out).mono ?_; rintro e wq ⟨rfl, nq, rfl⟩))
    all_goals
      go_wp2_with fail
      refine (known_ok _ ((HT.out.below' B6.out).drewN nq)).mono ?_
      rintro e w7 ⟨rfl, hb⟩
      have B7 := Lib.hid (B6.out.trans (((below_drewN (Below.refl _ _) nq).trans hb).mono B6.out.size))
      clear hb
      go_wp2_with fail
      go_ret
      exact ⟨rfl, B7.out⟩
  · by_cases hv : veerE l = 0
    · rw [hv] at C3 C4
      generalize veerV l = V at *
      by_cases h0 : l.length = 0
      · have h0' : ((l.length : Int) == 0) = true := by simpa using h0
        clear hE hv h0
        go_enter Tryd.func6, Tryd.ntmps6
        go_wp2_with fail
        refine (C1.out w).mono ?_
        rintro e w' ⟨rfl, rfl⟩
        go_wp2_with fail
        refine (C2.out w).mono ?_
        rintro e w' ⟨rfl, rfl⟩
        go_wp2_with fail
        refine (C3.out w HR.out).mono ?_
        rintro e w' ⟨rfl, m1, rfl⟩
        go_wp2_with fail
        refine (C4.out (w.drewN m1) HR.out).mono ?_
        rintro e w' ⟨rfl, m2, rfl⟩
        go_wp2_with fail
        refine (known_ok _ (HT.out.drewN (m1 + m2))).mono ?_
        rintro e w7 ⟨rfl, hb⟩
        go_wp2_with fail
        go_ret
        exact ⟨rfl, (below_drewN (Below.refl _ _) _).trans hb⟩
      · have h60 : l.length = 60 := by
          rcases Nat.lt_or_ge l.length 60 with h | h
          · exact absurd ⟨hv, h0, by omega⟩ hE
          · rcases Nat.lt_or_ge 60 l.length with h' | h'
            · exact absurd ⟨hv, h0, by omega⟩ hE
            · omega
        have h0' : ((l.length : Int) == 0) = false := by simpa using h0
        have h60' : ((l.length : Int) == 60) = true := by simp; omega
        clear hE hv h0 h60
        go_enter Tryd.func6, Tryd.ntmps6
        go_wp2_with fail
        refine (C1.out w).mono ?_
        rintro e w' ⟨rfl, rfl⟩
        go_wp2_with fail
        refine (C2.out w).mono ?_
        rintro e w' ⟨rfl, rfl⟩
        go_wp2_with fail
        refine (C3.out w HR.out).mono ?_
        rintro e w' ⟨rfl, m1, rfl⟩
        go_wp2_with fail
        refine (C4.out (w.drewN m1) HR.out).mono ?_
        rintro e w' ⟨rfl, m2, rfl⟩
        go_wp2_with fail
        refine (known_ok _ (HT.out.drewN (m1 + m2))).mono ?_
        rintro e w7 ⟨rfl, hb⟩
        go_wp2_with fail
        go_ret
        exact ⟨rfl, (below_drewN (Below.refl _ _) _).trans hb⟩
    · generalize veerV l = V at *
      generalize veerE l = G at *
      have hg : (G == 0) = false := by simpa using hv
      have hg' : (G != 0) = true := by simpa using hv
      clear hE hv
      go_enter Tryd.func6, Tryd.ntmps6
      go_wp2_with fail
      refine (C1.out w).mono ?_
      rintro e w' ⟨rfl, rfl⟩
      go_wp2_with fail
      refine (C2.out w).mono ?_
      rintro e w' ⟨rfl, rfl⟩
      go_wp2_with fail
      refine (C3.out w HR.out).mono ?_
      rintro e w' ⟨rfl, m1, rfl⟩
      go_wp2_with fail
      refine (C4.out (w.drewN m1) HR.out).mono ?_
      rintro e w' ⟨rfl, m2, rfl⟩
      go_wp2_with fail
      refine (known_ok _ (HT.out.drewN (m1 + m2))).mono ?_
      rintro e w7 ⟨rfl, hb⟩
      go_wp2_with fail
      go_ret
      exact ⟨rfl, (below_drewN (Below.refl _ _) _).trans hb⟩
end Go.Proofs.YtnnlbllkckakbaaDoor

/-
  Proofs of pages: the walks of depth, Depth, place, sides, areSums, proofOf, proof, Proof of both sides. Condition: the lists can be read.
-/
import Derived.Test.YtoenecgjiejljaaDoorBt4
import Derived.Test.YtoenecgjiejljaaDoorSap
namespace Go.Proofs.YtoenecgjiejljaaDoor
open Go.RowKit
set_option linter.unusedVariables false

set_option maxRecDepth 4000 in
set_option maxHeartbeats 2000000 in
theorem depth_any : ∀ (n i : Nat) (w : World), 1 ≤ n → n ≤ 64 → i < n → Calls Tryd.prog 188 #[.int .i64 i, .int .i64 n] w fun e w' => e = .returned (.int .i64 (dpN i n)) ∧ w = w' := by
  intro n
  induction n using Nat.strongRecOn with
  | _ n ih =>
    intro i w h1 h64 hin
    by_cases hn : n = 1
    · subst hn
      have HX := Lib.hid (show dpN i 1 = 0 from dp_one (by omega))
      clear ih
      go_enter Tryd.func188, Tryd.ntmps188
      go_wp2_with fail
      go_ret
      exact ⟨by rw [HX.out]; rfl, rfl⟩
    have e0 : ((n : Int) == 1) = false := beq_eq_false_iff_ne.2 (by omega)
    have e0' : (n == 1) = false := beq_eq_false_iff_ne.2 hn
    have hsp := sp_lt (n := n) (by omega)
    have HS := Lib.hid (split_any n w (by omega) h64)
    by_cases hi : i < spN n
    · have HX := Lib.hid (show dpN i n = dpN i (spN n) + 1 from dp_left (by omega) hi)
      have HC := Lib.hid (ih (spN n) hsp.2 i w (by omega) (by omega) hi)
      have hle := dp_le (spN n) i
      generalize dpN i (spN n) = x at *
      generalize spN n = k at *
      have e1 : decide ((i : Int) < (k : Int)) = true := decide_eq_true (by omega)
      have e1' : decide (i < k) = true := decide_eq_true hi
      clear ih
      go_enter Tryd.func188, Tryd.ntmps188
      go_wp2_with fail
      refine (HS.out).mono ?_
      rintro e w' ⟨rfl, rfl⟩
      go_wp2_with fail
      refine (HC.out).mono ?_
      rintro e w' ⟨rfl, rfl⟩
      go_wp2_with fail
      go_ret
      exact ⟨by rw [HX.out]; rfl, rfl⟩
    · have HX := Lib.hid (show dpN i n = dpN (i - spN n) (n - spN n) + 1 from dp_right (by omega) (by omega))
      have HC := Lib.hid (ih (n - spN n) (by omega) (i - spN n) w (by omega) (by omega) (by omega))
      have hle := dp_le (n - spN n) (i - spN n)
      generalize hx : dpN (i - spN n) (n - spN n) = x at *
      generalize spN n = k at *
      have e1 : decide ((i : Int) < (k : Int)) = false := decide_eq_false (by omega)
      have e1' : decide (i < k) = false := decide_eq_false hi
      rw [show ((i - k : Nat) : Int) = (i : Int) - (k : Int) by omega, show ((n - k : Nat) : Int) = (n : Int) - (k : Int) by omega] at HC
      clear ih hx
      go_enter Tryd.func188, Tryd.ntmps188
      go_wp2_with fail
      refine (HS.out).mono ?_
      rintro e w' ⟨rfl, rfl⟩
      go_wp2_with fail
      refine (HC.out).mono ?_
      rintro e w' ⟨rfl, rfl⟩
      go_wp2_with fail
      go_ret
      exact ⟨by rw [HX.out]; rfl, rfl⟩
/-- The errors of the number of a page. -/
def plE (i n : Int) : Int := if 1 ≤ n ∧ n ≤ 64 then (if 0 ≤ i ∧ i < n then 0 else 4) else 1
def dpV (i n : Int) : Int := if plE i n = 0 then (dpN i.toNat n.toNat : Int) else 0
theorem plE_ok {i n : Int} (h : plE i n = 0) : 1 ≤ n ∧ n ≤ 64 ∧ 0 ≤ i ∧ i < n := by
  unfold plE at h
  split at h
  · split at h
    · omega
    · cases h
  · cases h
set_option maxHeartbeats 1000000 in
theorem Depth_any (i n : Int) (w : World) : Calls Tryd.prog 140 #[.int .i64 i, .int .i64 n] w fun e w' => e = .returned (.tuple #[.int .i64 (dpV i n), .int .i64 (plE i n)]) ∧ w = w' := by
  by_cases h1 : 1 ≤ n
  case neg =>
    have e1 : decide (n < 1) = true := decide_eq_true (by omega)
    have HX := Lib.hid (show plE i n = 1 from if_neg (by omega))
    have HV := Lib.hid (show dpV i n = 0 from if_neg (by rw [HX.out]; omega))
    rw [HV.out]
    clear h1
    go_enter Tryd.func140, Tryd.ntmps140
    go_wp2_with fail
    go_ret2
    exact ⟨by rw [HX.out]; rfl, rfl⟩
  have e1 : decide (n < 1) = false := decide_eq_false (by omega)
  by_cases h2 : n ≤ 64
  case neg =>
    have e2 : decide (64 < n) = true := decide_eq_true (by omega)
    have HX := Lib.hid (show plE i n = 1 from if_neg (by omega))
    have HV := Lib.hid (show dpV i n = 0 from if_neg (by rw [HX.out]; omega))
    rw [HV.out]
    clear h1 h2
    go_enter Tryd.func140, Tryd.ntmps140
    go_wp2_with fail
    go_ret2
    exact ⟨by rw [HX.out]; rfl, rfl⟩
  have e2 : decide (64 < n) = false := decide_eq_false (by omega)
  have HY := Lib.hid (show plE i n = if 0 ≤ i ∧ i < n then 0 else 4 from if_pos ⟨h1, h2⟩)
  by_cases h3 : 0 ≤ i
  case neg =>
    have e3 : decide (i < 0) = true := decide_eq_true (by omega)
    have HX := Lib.hid (show plE i n = 4 by rw [HY.out, if_neg (by omega)])
    have HV := Lib.hid (show dpV i n = 0 from if_neg (by rw [HX.out]; omega))
    rw [HV.out]
    clear h1 h2 h3
    go_enter Tryd.func140, Tryd.ntmps140
    go_wp2_with fail
    go_ret2
    exact ⟨by rw [HX.out]; rfl, rfl⟩
  have e3 : decide (i < 0) = false := decide_eq_false (by omega)
  by_cases h4 : i < n
  case neg =>
    have e4 : decide (n ≤ i) = true := decide_eq_true (by omega)
    have HX := Lib.hid (show plE i n = 4 by rw [HY.out, if_neg (by omega)])
    have HV := Lib.hid (show dpV i n = 0 from if_neg (by rw [HX.out]; omega))
    rw [HV.out]
    clear h1 h2 h3 h4
    go_enter Tryd.func140, Tryd.ntmps140
    go_wp2_with fail
    go_ret2
    exact ⟨by rw [HX.out]; rfl, rfl⟩
  have e4 : decide (n ≤ i) = false := decide_eq_false (by omega)
  have HX := Lib.hid (show plE i n = 0 by rw [HY.out, if_pos ⟨h3, h4⟩])
  obtain ⟨a, rfl⟩ : ∃ a : Nat, i = (a : Int) := ⟨i.toNat, by omega⟩
  obtain ⟨b, rfl⟩ : ∃ b : Nat, n = (b : Int) := ⟨n.toNat, by omega⟩
  have HD := Lib.hid (depth_any b a w (by omega) (by omega) (by omega))
  have HV := Lib.hid (show dpV (a : Int) (b : Int) = (dpN a b : Int) from if_pos HX.out)
  have e4' : decide (b ≤ a) = false := decide_eq_false (by omega)
  rw [HV.out]
  generalize dpN a b = x at *
  clear h1 h2 h3 h4
  go_enter Tryd.func140, Tryd.ntmps140
  go_wp2_with fail
  refine (HD.out).mono ?_
  rintro e w' ⟨rfl, rfl⟩
  go_wp2_with fail
  go_ret2
  exact ⟨by rw [HX.out]; rfl, rfl⟩
set_option maxHeartbeats 1000000 in
theorem areSums_any (A : Option Addr) (c : Nat) (p : List Int) (w : World) (hr : Rd w w.heap.size A (ints p)) (hl : p.length ≤ 9223372036854775807) :
    Calls Tryd.prog 141 #[.slice A p.length c] w fun e w' => e = .returned (.bool (smsB p)) ∧ w = w' := by
  have HR := Lib.hid hr
  clear hr
  go_enter Tryd.func141, Tryd.ntmps141
  go_wp2_with fail
  go_loop [7] (fun i => ∃ k : Nat, k ≤ p.length ∧ i = .int .i64 k ∧ smsB (p.take k) = true) (fun i => p.length - (intOf i).toNat)
  case atStart => exact ⟨0, by omega, rfl, rfl⟩
  case round =>
    obtain ⟨k, hk, rfl, hall⟩ := hrel
    have HA := Lib.hid hall
    clear hall
    by_cases hlt : k < p.length
    · obtain ⟨b, o, x, rfl, hd, hc⟩ := HR.out.int k hlt
      have HP := Lib.hid (isSum_any x w)
      have e3 : decide ((k : Int) < (p.length : Int)) = true := decide_eq_true (by omega)
      cases hp : smB x
      · rw [hp] at HP
        have HZ := Lib.hid (show smsB p = false by unfold smsB; rw [List.all_eq_false]; exact ⟨x, List.mem_of_getElem? hd.out, by rw [hp]; simp⟩)
        clear hp
        go_wp2_with fail
        refine HP.out.mono ?_
        rintro e w' ⟨rfl, rfl⟩
        go_wp2_with fail
        go_ret
        exact ⟨by rw [HZ.out]; rfl, rfl⟩
      · rw [hp] at HP
        have HN := Lib.hid (show smsB (p.take (k + 1)) = true by have := HA.out; unfold smsB at this ⊢; rw [List.take_add_one, hd.out, List.all_append, this]; simp [hp])
        clear hp
        go_wp2_with fail
        refine HP.out.mono ?_
        rintro e w' ⟨rfl, rfl⟩
        go_wp2_with fail
        go_round
        case rel => exact ⟨k + 1, by omega, by go_num, HN.out⟩
        case measure => simp [intOf]; omega
    · have hkl : k = p.length := by omega
      have HZ := Lib.hid (show smsB p = true by have := HA.out; rw [hkl, List.take_length] at this; exact this)
      have e3 : decide ((k : Int) < (p.length : Int)) = false := decide_eq_false (by omega)
      clear hkl
      go_wp2_with fail
      go_ret
      exact ⟨by rw [HZ.out]; rfl, rfl⟩
set_option maxRecDepth 4000 in
set_option maxHeartbeats 4000000 in
theorem proofOf_any : ∀ (n : Nat) (l : List Int) (A : Option Addr) (c : Nat) (w : World) (i : Nat), l.length = n → 1 ≤ n → n ≤ 64 → AllSm l → n ≤ c → Rd w w.heap.size A (ints l) → i < n →
    Calls Tryd.prog 98 #[.slice A n c, .int .i64 i] w fun e w' => ∃ A' c', e = .returned (.slice A' (dpN i n) c') ∧ w'.ownsRow w.heap.size 3 1 (.slice A' (dpN i n) c') (dpN i n) (ints (pfL l i)) ∧ Below w.heap.size w w' := by
  intro n
  induction n using Nat.strongRecOn with
  | _ n ih =>
    intro l A c w i hl h1 h64 hs hc hr hin
    by_cases hn : n = 1
    · subst hn
      have HX := Lib.hid (show dpN i 1 = 0 ∧ pfL l i = [] from ⟨dp_one (by omega), pf_one (by omega)⟩)
      rw [HX.out.1, HX.out.2]
      clear ih hr
      go_enter Tryd.func98, Tryd.ntmps98
      go_wp2_with fail
      go_ret
      exact ⟨none, 0, rfl, World.ownsRow_nil _ _ _ _, Below.refl _ _⟩
    have e0 : ((n : Int) == 1) = false := beq_eq_false_iff_ne.2 (by omega)
    have e0' : (n == 1) = false := beq_eq_false_iff_ne.2 hn
    obtain ⟨b, o, rfl⟩ := hr.some_ (by omega)
    have hsp := sp_lt (n := n) (by omega)
    have HH := Lib.hid (halves_any b o n c (by omega) h64 hc w)
    have rt_ : Rd w w.heap.size (some ⟨b, o, none⟩) (ints (l.take (spN n))) := by have := hr.take (spN n); rw [ints_take] at this; exact this
    have rd_ : Rd w w.heap.size (some ⟨b, o + spN n, none⟩) (ints (l.drop (spN n))) := by have := hr.drop_ (spN n); rw [ints_drop] at this; exact this
    by_cases hi : i < spN n
    · have HX := Lib.hid (show pfL l i = pfL (l.take (spN n)) i ++ [rt (l.drop (spN n))] by have := pf_left (l := l) (i := i) (by omega) (by rw [hl]; omega); rw [hl] at this; exact this)
      have HD := Lib.hid (show dpN i n = dpN i (spN n) + 1 from dp_left (by omega) (by omega))
      have H1 := Lib.hid (fun m => ih (spN n) (by omega) (l.take (spN n)) (some ⟨b, o, none⟩) c (w.drewN m) i (by first | (rw [List.length_take]; omega) | (rw [List.length_drop]; omega)) (by omega) (by omega) (hs.take _) (by omega) rt_ (by omega))
      have H2 := Lib.hid (fun w' (hr' : Rd w' w'.heap.size _ (ints (l.drop (spN n)))) => rootOf_any (n - spN n) (l.drop (spN n)) (some ⟨b, o + spN n, none⟩) (c - spN n) w' (by first | (rw [List.length_take]; omega) | (rw [List.length_drop]; omega)) (by omega) (hs.drop _) (by omega) hr')
      have HR2 := Lib.hid rd_
      have hle := dp_le (spN n) i
      generalize pfL (l.take (spN n)) i = P at *
      generalize rt (l.drop (spN n)) = y at *
      generalize (l.drop (spN n)) = O at *
      generalize dpN i (spN n) = d at *
      generalize spN n = k at *
      have e1 : decide ((i : Int) < (k : Int)) = true := decide_eq_true (by omega)
      have e1' : decide (i < k) = true := decide_eq_true hi
      clear ih hr rt_ rd_
      go_enter Tryd.func98, Tryd.ntmps98
      go_wp2_with fail
      refine HH.out.mono ?_
      rintro e w' ⟨rfl, m, rfl⟩
      go_wp2_with fail
      refine (H1.out m).mono ?_
      rintro e w1 ⟨A1, c1, rfl, ho, hb⟩
      have O1 := Lib.hid (show w1.ownsRow w.heap.size 3 1 (.slice A1 d c1) d (ints P) from ho)
      have B1 := Lib.hid ((bdDN (Below.refl w.heap.size w) m).trans hb)
      clear ho hb
      go_wp2_with fail
      refine (H2.out w1 (HR2.out.upb B1.out)).mono ?_
      rintro e w' ⟨rfl, m2, rfl⟩
      have B2 := Lib.hid (bdDN B1.out m2)
      have O2 := Lib.hid (own_drewN O1.out m2)
      generalize w1.drewN m2 = w2 at *
      clear O1 B1
      go_wp2_with ((with_reducible show wpList _ _ _ (⟨some 25, _, _, _, _, _⟩ :: _) _ _); refine app eIntB rfl (.tmp 21) (.tmp 24) rfl rfl (O2.out.alloc _) (B2.out.alloc B2.out.size (.cells #[.int .i64 y] 3)) (size_alloc' B2.out.size _) rfl (Rd.one w2 (.int .i64 y) 3 (Nat.lt_succ_self _)) (by simp) (ints_one [y]) (d + 1) rfl (by omega) ?_; intro A2 c2 w3 o2 b2 _ _; have O3 := Lib.hid (show w3.ownsRow w.heap.size 3 1 (.slice A2 (d + 1) c2) (d + 1) (ints (P ++ [y])) by rw [ints_append]; exact o2); have B4 := Lib.hid b2; clear o2 b2)
      go_ret
      exact ⟨A2, c2, by rw [HD.out]; rfl, by rw [HD.out, HX.out]; exact O3.out, B4.out⟩
    · have HX := Lib.hid (show pfL l i = pfL (l.drop (spN n)) (i - spN n) ++ [rt (l.take (spN n))] by have := pf_right (l := l) (i := i) (by omega) (by rw [hl]; omega); rw [hl] at this; exact this)
      have HD := Lib.hid (show dpN i n = dpN (i - spN n) (n - spN n) + 1 from dp_right (by omega) (by omega))
      have H1 := Lib.hid (fun m => ih (n - spN n) (by omega) (l.drop (spN n)) (some ⟨b, o + spN n, none⟩) (c - spN n) (w.drewN m) (i - spN n) (by first | (rw [List.length_take]; omega) | (rw [List.length_drop]; omega)) (by omega) (by omega) (hs.drop _) (by omega) rd_ (by omega))
      have H2 := Lib.hid (fun w' (hr' : Rd w' w'.heap.size _ (ints (l.take (spN n)))) => rootOf_any (spN n) (l.take (spN n)) (some ⟨b, o, none⟩) c w' (by first | (rw [List.length_take]; omega) | (rw [List.length_drop]; omega)) (by omega) (hs.take _) (by omega) hr')
      have HR2 := Lib.hid rt_
      have hle := dp_le (n - spN n) (i - spN n)
      generalize pfL (l.drop (spN n)) (i - spN n) = P at *
      generalize rt (l.take (spN n)) = y at *
      generalize (l.take (spN n)) = O at *
      generalize dpN (i - spN n) (n - spN n) = d at *
      generalize spN n = k at *
      have e1 : decide ((i : Int) < (k : Int)) = false := decide_eq_false (by omega)
      have e1' : decide (i < k) = false := decide_eq_false hi
      rw [show ((i - k : Nat) : Int) = (i : Int) - (k : Int) by omega] at H1
      clear ih hr rt_ rd_
      go_enter Tryd.func98, Tryd.ntmps98
      go_wp2_with fail
      refine HH.out.mono ?_
      rintro e w' ⟨rfl, m, rfl⟩
      go_wp2_with fail
      refine (H1.out m).mono ?_
      rintro e w1 ⟨A1, c1, rfl, ho, hb⟩
      have O1 := Lib.hid (show w1.ownsRow w.heap.size 3 1 (.slice A1 d c1) d (ints P) from ho)
      have B1 := Lib.hid ((bdDN (Below.refl w.heap.size w) m).trans hb)
      clear ho hb
      go_wp2_with fail
      refine (H2.out w1 (HR2.out.upb B1.out)).mono ?_
      rintro e w' ⟨rfl, m2, rfl⟩
      have B2 := Lib.hid (bdDN B1.out m2)
      have O2 := Lib.hid (own_drewN O1.out m2)
      generalize w1.drewN m2 = w2 at *
      clear O1 B1
      go_wp2_with ((with_reducible show wpList _ _ _ (⟨some 35, _, _, _, _, _⟩ :: _) _ _); refine app eIntB rfl (.tmp 31) (.tmp 34) rfl rfl (O2.out.alloc _) (B2.out.alloc B2.out.size (.cells #[.int .i64 y] 3)) (size_alloc' B2.out.size _) rfl (Rd.one w2 (.int .i64 y) 3 (Nat.lt_succ_self _)) (by simp) (ints_one [y]) (d + 1) rfl (by omega) ?_; intro A2 c2 w3 o2 b2 _ _; have O3 := Lib.hid (show w3.ownsRow w.heap.size 3 1 (.slice A2 (d + 1) c2) (d + 1) (ints (P ++ [y])) by rw [ints_append]; exact o2); have B4 := Lib.hid b2; clear o2 b2)
      go_ret
      exact ⟨A2, c2, by rw [HD.out]; rfl, by rw [HD.out, HX.out]; exact O3.out, B4.out⟩
end Go.Proofs.YtoenecgjiejljaaDoor

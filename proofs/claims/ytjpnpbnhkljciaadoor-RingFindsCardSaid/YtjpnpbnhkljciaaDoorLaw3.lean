/-
  The walk of the law RingFinds: it returns true. Conditions: 'Tabs', and that the slice can be read.
-/
import Derived.Test.YtjpnpbnhkljciaaDoorLaw2
import Derived.BigRegion
namespace Go.Proofs.YtjpnpbnhkljciaaDoor
open Go.RowKit
set_option linter.unusedVariables false

theorem own_below {w w' : World} {base n : Nat} {e : TypeId} {size : Nat} {v : Value} {xs : List Value} (h : w.ownsRow base e size v n xs) (hb : Below w.heap.size w w') : w'.ownsRow base e size v n xs := by
  refine ⟨h.1, ?_⟩
  rcases h.2 with h1 | ⟨g, cap, cur, hv, hbg, hg, rest⟩
  · exact .inl h1
  · exact .inr ⟨g, cap, cur, hv, hbg, (hb.block g (lt_of_block hg)).trans hg, rest⟩
theorem own_at {w : World} {base n c : Nat} {A : Option Addr} {e : TypeId} {size : Nat} {xs : List Value} (h : w.ownsRow base e size (.slice A n c) n xs) (hn : 0 < n) : ∃ g, A = some ⟨g, 0, none⟩ ∧ base ≤ g ∧ g < w.heap.size := by
  rcases h.2 with ⟨hv, h0⟩ | ⟨g, cap, cur, hv, hbg, hg, rest⟩
  · omega
  · injection hv with h1 h2 h3
    exact ⟨g, h1, hbg, lt_of_block hg⟩
theorem pick_index (a : Int) (n : Nat) (hn : n ≤ 1000) : ∃ j : Nat, j < n + 1 ∧ wrap64 ((IntKind.u64.wrap a).tmod ((n : Int) + 1)) = (j : Int) := by
  have h0 : 0 ≤ IntKind.u64.wrap a := by rw [IntKind.wrap_u64]; omega
  generalize IntKind.u64.wrap a = u at h0
  rw [Int.tmod_eq_emod_of_nonneg h0]
  have h1 : 0 ≤ u % ((n : Int) + 1) := Int.emod_nonneg _ (by omega)
  have h2 : u % ((n : Int) + 1) < (n : Int) + 1 := Int.emod_lt_of_pos _ (by omega)
  generalize u % ((n : Int) + 1) = m at h1 h2
  exact ⟨m.toNat, by omega, by rw [IntWalk.wrap64_in m ⟨by omega, by omega⟩]; omega⟩
theorem set_split {L : List Int} {j : Nat} {d : Int} (h : L[j]? = some d) (x : Int) : L = L.take j ++ d :: L.drop (j + 1) ∧ L.set j x = L.take j ++ x :: L.drop (j + 1) := by
  obtain ⟨hj, hd⟩ := List.getElem?_eq_some_iff.1 h
  refine ⟨?_, by rw [List.set_eq_take_append_cons_drop, if_pos hj]⟩
  rw [← hd, List.getElem_cons_drop, List.take_append_drop]
theorem dig_set {L : List Int} (hL : ∀ x ∈ L, Dig x) {j : Nat} {x : Int} (hx : Dig x) : ∀ y ∈ L.set j x, Dig y := by
  intro y hy
  rcases List.mem_or_eq_of_mem_set hy with h | h
  · exact hL y h
  · rw [h]; exact hx
theorem bad_sum {L : List Int} {j : Nat} {d x : Int} (hL : ∀ x ∈ L, Dig x) (h : L[j]? = some d) (hx : Dig x) (hne : d ≠ x) (h0 : sumL L = 0) : sumL (L.set j x) ≠ 0 := by
  obtain ⟨h1, h2⟩ := set_split h x
  intro e
  refine hne (sum_wrong (a := L.take j) (l := L.drop (j + 1)) (fun y hy => hL y (List.mem_of_mem_take hy)) (fun y hy => hL y (List.mem_of_mem_drop hy)) (dig_at hL h) hx ?_)
  rw [← h1, ← h2, e, h0]
theorem swap_sum {L : List Int} {j : Nat} {d d' : Int} (hL : ∀ x ∈ L, Dig x) (hj : 0 < j) (h : L[j]? = some d) (h' : L[j - 1]? = some d') (hne : d ≠ d') (h0 : sumL L = 0) : sumL ((L.set j d').set (j - 1) d) ≠ 0 := by
  obtain ⟨i, rfl⟩ : ∃ i, j = i + 1 := ⟨j - 1, by omega⟩
  simp only [Nat.add_sub_cancel] at *
  obtain ⟨hi, hd⟩ := List.getElem?_eq_some_iff.1 h
  have e1 : L = L.take i ++ d' :: d :: L.drop (i + 2) := by
    have h3 := (set_split h' 0).1
    have h4 : L.drop (i + 1) = d :: L.drop (i + 2) := by rw [List.drop_eq_getElem_cons hi, hd]
    rw [h4] at h3
    exact h3
  have e2 : (L.set (i + 1) d').set i d = L.take i ++ d :: d' :: L.drop (i + 2) := by
    have h5 : (L.set (i + 1) d')[i]? = some d' := by rw [List.getElem?_set_ne (by omega)]; exact h'
    have h6 := (set_split h5 d).2
    rw [h6, List.take_set_of_le (by omega), List.drop_set, if_neg (by omega), Nat.sub_self, List.drop_eq_getElem_cons hi]
    rfl
  intro e
  rw [e2] at e
  rw [e1] at h0
  exact hne (sum_swap (a := L.take i) (l := L.drop (i + 2)) (fun y hy => hL y (List.mem_of_mem_take hy)) (fun y hy => hL y (List.mem_of_mem_drop hy)) (dig_at hL h') (dig_at hL h) (by rw [h0, e])).symm
theorem sum_bad {L : List Int} (hL : ∀ x ∈ L, Dig x) (hn : L.length ≤ 12) (h : sumL L ≠ 0) : digE L 12 = 0 ∧ (sumV L == 0) = false := by
  have h2 : digE L 12 = 0 := digE_ok (by omega) (allDig_iff.2 hL)
  exact ⟨h2, by rw [sumV, if_pos h2]; simpa using h⟩
theorem own_cell {w : World} {base n c g : Nat} {e : TypeId} {L : List Int} {j : Nat} {d : Int} (h : w.ownsRow base e 1 (.slice (some ⟨g, 0, none⟩) n c) n (ints L)) (hj : j < n) (hd : L[j]? = some d) : w.cell? ⟨g, j, none⟩ = some (.int .i64 d) := by
  rw [h.cellAt j (by omega)]
  exact ints_at hd
theorem ints_set (L : List Int) (j : Nat) (x : Int) : (ints L).set j (.int .i64 x) = ints (L.set j x) := by simp [ints, List.map_set]
theorem own_set {w : World} {base n c g : Nat} {e : TypeId} {L : List Int} (h : w.ownsRow base e 1 (.slice (some ⟨g, 0, none⟩) n c) n (ints L)) (j : Nat) (x : Int) : (w.setCell ⟨g, j, none⟩ (.int .i64 x)).ownsRow base e 1 (.slice (some ⟨g, 0, none⟩) n c) n (ints (L.set j x)) := by
  have := (h.stored j (.int .i64 x)).1
  rwa [ints_set] at this
set_option maxHeartbeats 4000000 in
theorem RingFinds_walk (A : Option Addr) (c : Nat) (l : List Int) (at_ digit : Int) (w : World) (hr : Rd w w.heap.size A (ints l)) (ht : Tabs w) (hm : l.length ≤ c) (hcm : c ≤ maxLen) :
    Calls Tryd.prog 6 #[.slice A l.length c, .int .i64 at_, .int .i64 digit] w fun e w' => e = .returned (.bool true) ∧ Below w.heap.size w w' := by
  have HT := Lib.hid ht
  have HR := Lib.hid hr
  clear ht hr
  unfold maxLen at hcm
  by_cases hn : (11 : Int) < (l.length : Int)
  · have hnb : decide ((11 : Int) < (l.length : Int)) = true := by simp; omega
    go_enter Tryd.func6, Tryd.ntmps6
    go_wp2_with fail
    refine (known_ok w HT.out).mono ?_
    rintro e w' ⟨rfl, hb⟩
    go_wp2_with fail
    go_ret
    exact ⟨rfl, hb⟩

  by_cases hn0 : l.length = 0
  · have hn0' : ((l.length : Int) == 0) = true := by simpa using hn0
    have hnb : decide ((11 : Int) < (l.length : Int)) = false := by simp; omega
    have HN := Lib.hid hn0
    clear hn0
    go_enter Tryd.func6, Tryd.ntmps6
    go_wp2_with fail
    refine (known_ok w HT.out).mono ?_
    rintro e w' ⟨rfl, hb⟩
    go_wp2_with fail
    go_ret
    exact ⟨rfl, hb⟩

  have hn0' : ((l.length : Int) == 0) = false := by simpa using hn0
  have hnb : decide ((11 : Int) < (l.length : Int)) = false := by simp; omega
  have C1 := Lib.hid (CheckDigit_any A c l w HR.out (by omega) HT.out)
  by_cases h0 : digE l 11 = 0
  · rw [h0] at C1
    obtain ⟨_, hl⟩ := digE_zero h0
    have HL := Lib.hid hl
    have hck : chkV l = chkD l := if_pos h0
    have hdk := dig_chk hl
    have hz : sumL (l ++ [chkD l]) = 0 := (chk_iff hl hdk).2 rfl
    rw [hck] at C1
    generalize chkD l = k at *
    have HK := Lib.hid hdk
    have HZ := Lib.hid hz
    clear h0 hl hck hdk hz
    by_cases hd0 : digit < 0
    · have hx0 : decide (digit < 0) = true := by simp; omega
      go_enter Tryd.func6, Tryd.ntmps6
      go_wp2_with fail
      refine C1.out.mono ?_
      rintro e w2 ⟨rfl, hb⟩
      have B2 := Lib.hid hb
      clear hb
      go_wp2_with fail
      refine (known_ok _ (HT.out.below' B2.out)).mono ?_
      rintro e w' ⟨rfl, hb⟩
      go_wp2_with fail
      go_ret
      exact ⟨rfl, B2.out.trans (hb.mono B2.out.size)⟩
    have hx0 : decide (digit < 0) = false := by simp; omega
    by_cases hd9 : 9 < digit
    · have hx9 : decide (9 < digit) = true := by simp; omega
      go_enter Tryd.func6, Tryd.ntmps6
      go_wp2_with fail
      refine C1.out.mono ?_
      rintro e w2 ⟨rfl, hb⟩
      have B2 := Lib.hid hb
      clear hb
      go_wp2_with fail
      refine (known_ok _ (HT.out.below' B2.out)).mono ?_
      rintro e w' ⟨rfl, hb⟩
      go_wp2_with fail
      go_ret
      exact ⟨rfl, B2.out.trans (hb.mono B2.out.size)⟩
    have hx9 : decide (9 < digit) = false := by simp; omega
    have HX := Lib.hid (show Dig digit from ⟨by omega, by omega⟩)
    obtain ⟨j, hj, hjw⟩ := pick_index at_ l.length (by omega)
    have hL : ∀ x ∈ l ++ [k], Dig x := dig_app HL.out HK.out
    have hlen : (l ++ [k]).length = l.length + 1 := by simp
    obtain ⟨L, hLe⟩ : ∃ L, L = l ++ [k] := ⟨_, rfl⟩
    rw [← hLe] at hL hlen HZ
    have HLe := Lib.hid hLe
    have HLL := Lib.hid hL
    have HLn := Lib.hid hlen
    obtain ⟨d, hd⟩ : ∃ d, L[j]? = some d := ⟨_, List.getElem?_eq_getElem (by omega)⟩
    have HD := Lib.hid hd
    clear hLe hL hlen hd

    by_cases hne : d = digit
    · have hnf : (d != digit) = false := by simpa using hne
      clear hne
      rcases Nat.eq_zero_or_pos j with hj0 | hjp
      · have hjf : decide ((0 : Int) < (j : Int)) = false := by simp; omega
        have hjf' : decide (0 < j) = false := by simp; omega
        have HJ := Lib.hid hj0
        clear hj0
        go_enter Tryd.func6, Tryd.ntmps6
        go_wp2_with fail
        refine C1.out.mono ?_
        rintro e w2 ⟨rfl, hb⟩
        have B2 := Lib.hid hb
        clear hb
        have O0 := Lib.hid (own_lit w2 3 1 B2.out.size)
        have B3 := Lib.hid (B2.out.alloc B2.out.size (.cells #[] 3))
        have S3 := Lib.hid B3.out.size
        go_wp2_with (first
          | ((with_reducible show wpList _ _ _ (⟨some 43, _, _, _, _, _⟩ :: _) _ _); refine app eInt rfl (.tmp 41) (.tmp 42) rfl rfl O0.out B3.out S3.out rfl (HR.out.below B3.out (Nat.le_refl _)) (by simp [ints]) (ints_one _) l.length (by omega) (by omega) ?_; intro A4 c4 w4 o4 b4 g4 h4; clear g4 h4; have O4 := Lib.hid o4; have B4 := Lib.hid b4; clear o4 b4)
          | ((with_reducible show wpList _ _ _ (⟨some 46, _, _, _, _, _⟩ :: _) _ _); refine app eInt rfl (.tmp 43) (.tmp 45) rfl rfl (O4.out.alloc _) (B4.out.alloc B4.out.size (.cells #[.int .i64 k] 3)) (size_alloc' B4.out.size _) rfl (Rd.one w4 (.int .i64 k) 3 (Nat.lt_succ_self _)) (by simp) (ints_one [k]) (l.length + 1) rfl (by omega) ?_; intro A5 c5 w5 o5 b5 g5 h5; clear g5 h5; obtain ⟨g, rfl, hgb, hgs⟩ := own_at o5 (by omega); have O5 := Lib.hid (show w5.ownsRow w.heap.size 3 1 (.slice (some ⟨g, 0, none⟩) (l.length + 1) c5) (l.length + 1) (ints L) by rw [HLe.out]; simpa [ints] using o5); have B5 := Lib.hid b5; have hcj := own_cell O5.out hj HD.out; clear o5 b5)
          | ((with_reducible show wpList _ _ _ (⟨some 56, _, _, _, _, _⟩ :: _) _ _); rw [hjw])
          | (go_at_call 22; fail)
          | (go_at_call 21; fail))
        go_quiet (fail)
        go_wp2_with fail
        refine (known_ok _ (HT.out.below' (below_drewN B5.out _))).mono ?_
        rintro e w' ⟨rfl, hb⟩
        go_wp2_with fail
        go_ret
        exact ⟨rfl, ((below_drewN B5.out _)).trans (hb.mono ((below_drewN B5.out _)).size)⟩
      · have hjt : decide ((0 : Int) < (j : Int)) = true := by simp; omega
        have hjt' : decide (0 < j) = true := by simp; omega
        obtain ⟨d', hd'⟩ : ∃ d', L[j - 1]? = some d' := ⟨_, List.getElem?_eq_getElem (by have := HLn.out; omega)⟩
        have HD' := Lib.hid hd'
        clear hd'
        by_cases hdd : d = d'
        · have hdf : (d != d') = false := by simpa using hdd
          clear hdd
          go_enter Tryd.func6, Tryd.ntmps6
          go_wp2_with fail
          refine C1.out.mono ?_
          rintro e w2 ⟨rfl, hb⟩
          have B2 := Lib.hid hb
          clear hb
          have O0 := Lib.hid (own_lit w2 3 1 B2.out.size)
          have B3 := Lib.hid (B2.out.alloc B2.out.size (.cells #[] 3))
          have S3 := Lib.hid B3.out.size
          go_wp2_with (first
            | ((with_reducible show wpList _ _ _ (⟨some 43, _, _, _, _, _⟩ :: _) _ _); refine app eInt rfl (.tmp 41) (.tmp 42) rfl rfl O0.out B3.out S3.out rfl (HR.out.below B3.out (Nat.le_refl _)) (by simp [ints]) (ints_one _) l.length (by omega) (by omega) ?_; intro A4 c4 w4 o4 b4 g4 h4; clear g4 h4; have O4 := Lib.hid o4; have B4 := Lib.hid b4; clear o4 b4)
            | ((with_reducible show wpList _ _ _ (⟨some 46, _, _, _, _, _⟩ :: _) _ _); refine app eInt rfl (.tmp 43) (.tmp 45) rfl rfl (O4.out.alloc _) (B4.out.alloc B4.out.size (.cells #[.int .i64 k] 3)) (size_alloc' B4.out.size _) rfl (Rd.one w4 (.int .i64 k) 3 (Nat.lt_succ_self _)) (by simp) (ints_one [k]) (l.length + 1) rfl (by omega) ?_; intro A5 c5 w5 o5 b5 g5 h5; clear g5 h5; obtain ⟨g, rfl, hgb, hgs⟩ := own_at o5 (by omega); have O5 := Lib.hid (show w5.ownsRow w.heap.size 3 1 (.slice (some ⟨g, 0, none⟩) (l.length + 1) c5) (l.length + 1) (ints L) by rw [HLe.out]; simpa [ints] using o5); have B5 := Lib.hid b5; have hcj := own_cell O5.out hj HD.out; clear o5 b5)
            | ((with_reducible show wpList _ _ _ (⟨some 56, _, _, _, _, _⟩ :: _) _ _); rw [hjw])
            | (go_at_call 22; fail)
            | (go_at_call 21; fail))
          have hc0 := own_cell O5.out hj HD.out
          have hc1 := own_cell O5.out (show j - 1 < l.length + 1 by omega) HD'.out
          go_quiet (fail)
          go_wp2_with fail
          refine (known_ok _ (HT.out.below' (below_drewN B5.out _))).mono ?_
          rintro e w' ⟨rfl, hb⟩
          go_wp2_with fail
          go_ret
          exact ⟨rfl, ((below_drewN B5.out _)).trans (hb.mono ((below_drewN B5.out _)).size)⟩
        · have hdf : (d != d') = true := by simpa using hdd
          have HDD := Lib.hid hdd
          clear hdd
          go_enter Tryd.func6, Tryd.ntmps6
          go_wp2_with fail
          refine C1.out.mono ?_
          rintro e w2 ⟨rfl, hb⟩
          have B2 := Lib.hid hb
          clear hb
          have O0 := Lib.hid (own_lit w2 3 1 B2.out.size)
          have B3 := Lib.hid (B2.out.alloc B2.out.size (.cells #[] 3))
          have S3 := Lib.hid B3.out.size
          go_wp2_with (first
            | ((with_reducible show wpList _ _ _ (⟨some 43, _, _, _, _, _⟩ :: _) _ _); refine app eInt rfl (.tmp 41) (.tmp 42) rfl rfl O0.out B3.out S3.out rfl (HR.out.below B3.out (Nat.le_refl _)) (by simp [ints]) (ints_one _) l.length (by omega) (by omega) ?_; intro A4 c4 w4 o4 b4 g4 h4; clear g4 h4; have O4 := Lib.hid o4; have B4 := Lib.hid b4; clear o4 b4)
            | ((with_reducible show wpList _ _ _ (⟨some 46, _, _, _, _, _⟩ :: _) _ _); refine app eInt rfl (.tmp 43) (.tmp 45) rfl rfl (O4.out.alloc _) (B4.out.alloc B4.out.size (.cells #[.int .i64 k] 3)) (size_alloc' B4.out.size _) rfl (Rd.one w4 (.int .i64 k) 3 (Nat.lt_succ_self _)) (by simp) (ints_one [k]) (l.length + 1) rfl (by omega) ?_; intro A5 c5 w5 o5 b5 g5 h5; clear g5 h5; obtain ⟨g, rfl, hgb, hgs⟩ := own_at o5 (by omega); have O5 := Lib.hid (show w5.ownsRow w.heap.size 3 1 (.slice (some ⟨g, 0, none⟩) (l.length + 1) c5) (l.length + 1) (ints L) by rw [HLe.out]; simpa [ints] using o5); have B5 := Lib.hid b5; have hcj := own_cell O5.out hj HD.out; clear o5 b5)
            | ((with_reducible show wpList _ _ _ (⟨some 56, _, _, _, _, _⟩ :: _) _ _); rw [hjw])
            | (go_at_call 22; fail)
            | (go_at_call 21; fail))
          have hc0 := own_cell O5.out hj HD.out
          have hc1 := own_cell O5.out (show j - 1 < l.length + 1 by omega) HD'.out
          have hf0 := (O5.out).frozenAt j
          have hf1 := (O5.out).frozenAt (j - 1)
          go_quiet (fail)
          go_wp2_with fail
          go_region
          have HSW := Lib.hid (sum_bad (dig_set (dig_set HLL.out (dig_at HLL.out HD'.out)) (dig_at HLL.out HD.out)) (by simp; rw [HLn.out]; omega) (swap_sum HLL.out hjp HD.out HD'.out HDD.out HZ.out) : digE ((L.set j d').set (j - 1) d) 12 = 0 ∧ (sumV ((L.set j d').set (j - 1) d) == 0) = false)
          have hsw := HSW.out.2
          obtain ⟨S', hS'⟩ : ∃ S, sumV ((L.set j d').set (j - 1) d) = S := ⟨_, rfl⟩
          rw [hS'] at hsw
          have HS' := Lib.hid hS'
          clear hS'
          have O10 := Lib.hid (own_set (own_set (show (w5.drewN (nq + 1)).ownsRow w.heap.size 3 1 (.slice (some ⟨g, 0, none⟩) (l.length + 1) c5) (l.length + 1) (ints L) from O5.out) j d') (j - 1) d)
          have B10 := Lib.hid (show Below w.heap.size w (((w5.drewN (nq + 1)).setCell ⟨g, j, none⟩ (.int .i64 d')).setCell ⟨g, j - 1, none⟩ (.int .i64 d)) from ((below_drewN B5.out (nq + 1)).setCell (by exact hgb) _).setCell (by exact hgb) _)
          clear hc0 hc1 hf0 hf1
          go_wp2_with fail
          refine (Sum_n _ _ c5 ((L.set j d').set (j - 1) d) S' 0 _ (by simp; rw [HLn.out]) (Rd.of_own O10.out) (by omega) (HT.out.below' B10.out) HS'.out HSW.out.1).mono ?_
          rintro e w' ⟨rfl, m', hw⟩
          have B11 := Lib.hid (show Below w.heap.size w w' by rw [hw]; exact below_drewN B10.out m')
          clear hw
          go_wp2_with fail
          refine (known_ok _ (HT.out.below' B11.out)).mono ?_
          rintro e w' ⟨rfl, hb⟩
          go_wp2_with fail
          go_ret
          exact ⟨rfl, (B11.out).trans (hb.mono (B11.out).size)⟩

    · have hnf : (d != digit) = true := by simpa using hne
      have HNE := Lib.hid hne
      clear hne
      rcases Nat.eq_zero_or_pos j with hj0 | hjp
      · have hjf : decide ((0 : Int) < (j : Int)) = false := by simp; omega
        have hjf' : decide (0 < j) = false := by simp; omega
        have HJ := Lib.hid hj0
        clear hj0
        go_enter Tryd.func6, Tryd.ntmps6
        go_wp2_with fail
        refine C1.out.mono ?_
        rintro e w2 ⟨rfl, hb⟩
        have B2 := Lib.hid hb
        clear hb
        have O0 := Lib.hid (own_lit w2 3 1 B2.out.size)
        have B3 := Lib.hid (B2.out.alloc B2.out.size (.cells #[] 3))
        have S3 := Lib.hid B3.out.size
        go_wp2_with (first
          | ((with_reducible show wpList _ _ _ (⟨some 43, _, _, _, _, _⟩ :: _) _ _); refine app eInt rfl (.tmp 41) (.tmp 42) rfl rfl O0.out B3.out S3.out rfl (HR.out.below B3.out (Nat.le_refl _)) (by simp [ints]) (ints_one _) l.length (by omega) (by omega) ?_; intro A4 c4 w4 o4 b4 g4 h4; clear g4 h4; have O4 := Lib.hid o4; have B4 := Lib.hid b4; clear o4 b4)
          | ((with_reducible show wpList _ _ _ (⟨some 46, _, _, _, _, _⟩ :: _) _ _); refine app eInt rfl (.tmp 43) (.tmp 45) rfl rfl (O4.out.alloc _) (B4.out.alloc B4.out.size (.cells #[.int .i64 k] 3)) (size_alloc' B4.out.size _) rfl (Rd.one w4 (.int .i64 k) 3 (Nat.lt_succ_self _)) (by simp) (ints_one [k]) (l.length + 1) rfl (by omega) ?_; intro A5 c5 w5 o5 b5 g5 h5; clear g5 h5; obtain ⟨g, rfl, hgb, hgs⟩ := own_at o5 (by omega); have O5 := Lib.hid (show w5.ownsRow w.heap.size 3 1 (.slice (some ⟨g, 0, none⟩) (l.length + 1) c5) (l.length + 1) (ints L) by rw [HLe.out]; simpa [ints] using o5); have B5 := Lib.hid b5; have hcj := own_cell O5.out hj HD.out; clear o5 b5)
          | ((with_reducible show wpList _ _ _ (⟨some 56, _, _, _, _, _⟩ :: _) _ _); rw [hjw])
          | ((with_reducible show wpList _ _ _ (⟨some 62, _, _, _, _, _⟩ :: _) _ _); refine app eInt rfl (.tmp 60) (.tmp 61) rfl rfl (own_lit w5 3 1 (Nat.le_refl w5.heap.size)) ((Below.refl w5.heap.size w5).alloc (Nat.le_refl _) _) (by simp) rfl ((Rd.of_own O5.out).below ((Below.refl w5.heap.size w5).alloc (Nat.le_refl _) _) (Nat.le_refl _)) (by rw [ints_length, HLn.out]; omega) (ints_one _) (l.length + 1) (by omega) (by omega) ?_; intro A6 c6 w6 o6 b6 g6 h6; clear g6 h6; obtain ⟨h, rfl, hhb, hhs⟩ := own_at o6 (by omega); have O6 := Lib.hid (show w6.ownsRow w5.heap.size 3 1 (.slice (some ⟨h, 0, none⟩) (l.length + 1) c6) (l.length + 1) (ints L) by simpa using o6); have B6 := Lib.hid b6; have hch := own_cell O6.out hj HD.out; have hfh := O6.out.frozenAt j; clear o6 b6)
          | (go_at_call 22; fail)
          | (go_at_call 21; fail))
        have HB := Lib.hid (sum_bad (dig_set HLL.out HX.out) (by simp; rw [HLn.out]; omega) (bad_sum HLL.out HD.out HX.out HNE.out HZ.out) : digE (L.set j digit) 12 = 0 ∧ (sumV (L.set j digit) == 0) = false)
        have O7 := Lib.hid (own_set O6.out j digit)
        have hs7 : (sumV (L.set j digit) == 0) = false := HB.out.2
        obtain ⟨S, hS⟩ : ∃ S, sumV (L.set j digit) = S := ⟨_, rfl⟩
        rw [hS] at hs7
        have HS := Lib.hid hS
        have T7 := Lib.hid (HT.out.below' (show Below w.heap.size w (w6.setCell ⟨h, j, none⟩ (.int .i64 digit)) from (B5.out.trans (B6.out.mono B5.out.size)).setCell (by have := B5.out.size; show _ ≤ h; omega) _))
        clear hS
        refine (Sum_n _ _ c6 (L.set j digit) S 0 _ (by simp; rw [HLn.out]) (Rd.of_own O7.out) (by omega) T7.out HS.out HB.out.1).mono ?_
        rintro e w' ⟨rfl, m, hw⟩
        have B8 := Lib.hid (show Below w5.heap.size w5 w' by rw [hw]; exact below_drewN (B6.out.setCell (by exact hhb) _) m)
        have O8 := Lib.hid (own_below O5.out B8.out)
        have B9 := Lib.hid (B5.out.trans (B8.out.mono B5.out.size))
        clear hw hcj hch hfh
        go_wp2_with fail
        go_quiet (fail)
        go_wp2_with fail
        refine (known_ok _ (HT.out.below' (below_drewN B9.out _))).mono ?_
        rintro e w' ⟨rfl, hb⟩
        go_wp2_with fail
        go_ret
        exact ⟨rfl, ((below_drewN B9.out _)).trans (hb.mono ((below_drewN B9.out _)).size)⟩
      · have hjt : decide ((0 : Int) < (j : Int)) = true := by simp; omega
        have hjt' : decide (0 < j) = true := by simp; omega
        obtain ⟨d', hd'⟩ : ∃ d', L[j - 1]? = some d' := ⟨_, List.getElem?_eq_getElem (by have := HLn.out; omega)⟩
        have HD' := Lib.hid hd'
        clear hd'
        by_cases hdd : d = d'
        · have hdf : (d != d') = false := by simpa using hdd
          clear hdd
          go_enter Tryd.func6, Tryd.ntmps6
          go_wp2_with fail
          refine C1.out.mono ?_
          rintro e w2 ⟨rfl, hb⟩
          have B2 := Lib.hid hb
          clear hb
          have O0 := Lib.hid (own_lit w2 3 1 B2.out.size)
          have B3 := Lib.hid (B2.out.alloc B2.out.size (.cells #[] 3))
          have S3 := Lib.hid B3.out.size
          go_wp2_with (first
            | ((with_reducible show wpList _ _ _ (⟨some 43, _, _, _, _, _⟩ :: _) _ _); refine app eInt rfl (.tmp 41) (.tmp 42) rfl rfl O0.out B3.out S3.out rfl (HR.out.below B3.out (Nat.le_refl _)) (by simp [ints]) (ints_one _) l.length (by omega) (by omega) ?_; intro A4 c4 w4 o4 b4 g4 h4; clear g4 h4; have O4 := Lib.hid o4; have B4 := Lib.hid b4; clear o4 b4)
            | ((with_reducible show wpList _ _ _ (⟨some 46, _, _, _, _, _⟩ :: _) _ _); refine app eInt rfl (.tmp 43) (.tmp 45) rfl rfl (O4.out.alloc _) (B4.out.alloc B4.out.size (.cells #[.int .i64 k] 3)) (size_alloc' B4.out.size _) rfl (Rd.one w4 (.int .i64 k) 3 (Nat.lt_succ_self _)) (by simp) (ints_one [k]) (l.length + 1) rfl (by omega) ?_; intro A5 c5 w5 o5 b5 g5 h5; clear g5 h5; obtain ⟨g, rfl, hgb, hgs⟩ := own_at o5 (by omega); have O5 := Lib.hid (show w5.ownsRow w.heap.size 3 1 (.slice (some ⟨g, 0, none⟩) (l.length + 1) c5) (l.length + 1) (ints L) by rw [HLe.out]; simpa [ints] using o5); have B5 := Lib.hid b5; have hcj := own_cell O5.out hj HD.out; clear o5 b5)
            | ((with_reducible show wpList _ _ _ (⟨some 56, _, _, _, _, _⟩ :: _) _ _); rw [hjw])
            | ((with_reducible show wpList _ _ _ (⟨some 62, _, _, _, _, _⟩ :: _) _ _); refine app eInt rfl (.tmp 60) (.tmp 61) rfl rfl (own_lit w5 3 1 (Nat.le_refl w5.heap.size)) ((Below.refl w5.heap.size w5).alloc (Nat.le_refl _) _) (by simp) rfl ((Rd.of_own O5.out).below ((Below.refl w5.heap.size w5).alloc (Nat.le_refl _) _) (Nat.le_refl _)) (by rw [ints_length, HLn.out]; omega) (ints_one _) (l.length + 1) (by omega) (by omega) ?_; intro A6 c6 w6 o6 b6 g6 h6; clear g6 h6; obtain ⟨h, rfl, hhb, hhs⟩ := own_at o6 (by omega); have O6 := Lib.hid (show w6.ownsRow w5.heap.size 3 1 (.slice (some ⟨h, 0, none⟩) (l.length + 1) c6) (l.length + 1) (ints L) by simpa using o6); have B6 := Lib.hid b6; have hch := own_cell O6.out hj HD.out; have hfh := O6.out.frozenAt j; clear o6 b6)
            | (go_at_call 22; fail)
            | (go_at_call 21; fail))
          have HB := Lib.hid (sum_bad (dig_set HLL.out HX.out) (by simp; rw [HLn.out]; omega) (bad_sum HLL.out HD.out HX.out HNE.out HZ.out) : digE (L.set j digit) 12 = 0 ∧ (sumV (L.set j digit) == 0) = false)
          have O7 := Lib.hid (own_set O6.out j digit)
          have hs7 : (sumV (L.set j digit) == 0) = false := HB.out.2
          obtain ⟨S, hS⟩ : ∃ S, sumV (L.set j digit) = S := ⟨_, rfl⟩
          rw [hS] at hs7
          have HS := Lib.hid hS
          have T7 := Lib.hid (HT.out.below' (show Below w.heap.size w (w6.setCell ⟨h, j, none⟩ (.int .i64 digit)) from (B5.out.trans (B6.out.mono B5.out.size)).setCell (by have := B5.out.size; show _ ≤ h; omega) _))
          clear hS
          refine (Sum_n _ _ c6 (L.set j digit) S 0 _ (by simp; rw [HLn.out]) (Rd.of_own O7.out) (by omega) T7.out HS.out HB.out.1).mono ?_
          rintro e w' ⟨rfl, m, hw⟩
          have B8 := Lib.hid (show Below w5.heap.size w5 w' by rw [hw]; exact below_drewN (B6.out.setCell (by exact hhb) _) m)
          have O8 := Lib.hid (own_below O5.out B8.out)
          have B9 := Lib.hid (B5.out.trans (B8.out.mono B5.out.size))
          clear hw hcj hch hfh
          go_wp2_with fail
          have hc0 := own_cell O8.out hj HD.out
          have hc1 := own_cell O8.out (show j - 1 < l.length + 1 by omega) HD'.out
          go_quiet (fail)
          go_wp2_with fail
          refine (known_ok _ (HT.out.below' (below_drewN B9.out _))).mono ?_
          rintro e w' ⟨rfl, hb⟩
          go_wp2_with fail
          go_ret
          exact ⟨rfl, ((below_drewN B9.out _)).trans (hb.mono ((below_drewN B9.out _)).size)⟩
        · have hdf : (d != d') = true := by simpa using hdd
          have HDD := Lib.hid hdd
          clear hdd
          go_enter Tryd.func6, Tryd.ntmps6
          go_wp2_with fail
          refine C1.out.mono ?_
          rintro e w2 ⟨rfl, hb⟩
          have B2 := Lib.hid hb
          clear hb
          have O0 := Lib.hid (own_lit w2 3 1 B2.out.size)
          have B3 := Lib.hid (B2.out.alloc B2.out.size (.cells #[] 3))
          have S3 := Lib.hid B3.out.size
          go_wp2_with (first
            | ((with_reducible show wpList _ _ _ (⟨some 43, _, _, _, _, _⟩ :: _) _ _); refine app eInt rfl (.tmp 41) (.tmp 42) rfl rfl O0.out B3.out S3.out rfl (HR.out.below B3.out (Nat.le_refl _)) (by simp [ints]) (ints_one _) l.length (by omega) (by omega) ?_; intro A4 c4 w4 o4 b4 g4 h4; clear g4 h4; have O4 := Lib.hid o4; have B4 := Lib.hid b4; clear o4 b4)
            | ((with_reducible show wpList _ _ _ (⟨some 46, _, _, _, _, _⟩ :: _) _ _); refine app eInt rfl (.tmp 43) (.tmp 45) rfl rfl (O4.out.alloc _) (B4.out.alloc B4.out.size (.cells #[.int .i64 k] 3)) (size_alloc' B4.out.size _) rfl (Rd.one w4 (.int .i64 k) 3 (Nat.lt_succ_self _)) (by simp) (ints_one [k]) (l.length + 1) rfl (by omega) ?_; intro A5 c5 w5 o5 b5 g5 h5; clear g5 h5; obtain ⟨g, rfl, hgb, hgs⟩ := own_at o5 (by omega); have O5 := Lib.hid (show w5.ownsRow w.heap.size 3 1 (.slice (some ⟨g, 0, none⟩) (l.length + 1) c5) (l.length + 1) (ints L) by rw [HLe.out]; simpa [ints] using o5); have B5 := Lib.hid b5; have hcj := own_cell O5.out hj HD.out; clear o5 b5)
            | ((with_reducible show wpList _ _ _ (⟨some 56, _, _, _, _, _⟩ :: _) _ _); rw [hjw])
            | ((with_reducible show wpList _ _ _ (⟨some 62, _, _, _, _, _⟩ :: _) _ _); refine app eInt rfl (.tmp 60) (.tmp 61) rfl rfl (own_lit w5 3 1 (Nat.le_refl w5.heap.size)) ((Below.refl w5.heap.size w5).alloc (Nat.le_refl _) _) (by simp) rfl ((Rd.of_own O5.out).below ((Below.refl w5.heap.size w5).alloc (Nat.le_refl _) _) (Nat.le_refl _)) (by rw [ints_length, HLn.out]; omega) (ints_one _) (l.length + 1) (by omega) (by omega) ?_; intro A6 c6 w6 o6 b6 g6 h6; clear g6 h6; obtain ⟨h, rfl, hhb, hhs⟩ := own_at o6 (by omega); have O6 := Lib.hid (show w6.ownsRow w5.heap.size 3 1 (.slice (some ⟨h, 0, none⟩) (l.length + 1) c6) (l.length + 1) (ints L) by simpa using o6); have B6 := Lib.hid b6; have hch := own_cell O6.out hj HD.out; have hfh := O6.out.frozenAt j; clear o6 b6)
            | (go_at_call 22; fail)
            | (go_at_call 21; fail))
          have HB := Lib.hid (sum_bad (dig_set HLL.out HX.out) (by simp; rw [HLn.out]; omega) (bad_sum HLL.out HD.out HX.out HNE.out HZ.out) : digE (L.set j digit) 12 = 0 ∧ (sumV (L.set j digit) == 0) = false)
          have O7 := Lib.hid (own_set O6.out j digit)
          have hs7 : (sumV (L.set j digit) == 0) = false := HB.out.2
          obtain ⟨S, hS⟩ : ∃ S, sumV (L.set j digit) = S := ⟨_, rfl⟩
          rw [hS] at hs7
          have HS := Lib.hid hS
          have T7 := Lib.hid (HT.out.below' (show Below w.heap.size w (w6.setCell ⟨h, j, none⟩ (.int .i64 digit)) from (B5.out.trans (B6.out.mono B5.out.size)).setCell (by have := B5.out.size; show _ ≤ h; omega) _))
          clear hS
          refine (Sum_n _ _ c6 (L.set j digit) S 0 _ (by simp; rw [HLn.out]) (Rd.of_own O7.out) (by omega) T7.out HS.out HB.out.1).mono ?_
          rintro e w' ⟨rfl, m, hw⟩
          have B8 := Lib.hid (show Below w5.heap.size w5 w' by rw [hw]; exact below_drewN (B6.out.setCell (by exact hhb) _) m)
          have O8 := Lib.hid (own_below O5.out B8.out)
          have B9 := Lib.hid (B5.out.trans (B8.out.mono B5.out.size))
          clear hw hcj hch hfh
          go_wp2_with fail
          have hc0 := own_cell O8.out hj HD.out
          have hc1 := own_cell O8.out (show j - 1 < l.length + 1 by omega) HD'.out
          have hf0 := (O8.out).frozenAt j
          have hf1 := (O8.out).frozenAt (j - 1)
          go_quiet (fail)
          go_wp2_with fail
          go_region
          have HSW := Lib.hid (sum_bad (dig_set (dig_set HLL.out (dig_at HLL.out HD'.out)) (dig_at HLL.out HD.out)) (by simp; rw [HLn.out]; omega) (swap_sum HLL.out hjp HD.out HD'.out HDD.out HZ.out) : digE ((L.set j d').set (j - 1) d) 12 = 0 ∧ (sumV ((L.set j d').set (j - 1) d) == 0) = false)
          have hsw := HSW.out.2
          obtain ⟨S', hS'⟩ : ∃ S, sumV ((L.set j d').set (j - 1) d) = S := ⟨_, rfl⟩
          rw [hS'] at hsw
          have HS' := Lib.hid hS'
          clear hS'
          have O10 := Lib.hid (own_set (own_set (show (w'.drewN (nq + 1)).ownsRow w.heap.size 3 1 (.slice (some ⟨g, 0, none⟩) (l.length + 1) c5) (l.length + 1) (ints L) from O8.out) j d') (j - 1) d)
          have B10 := Lib.hid (show Below w.heap.size w (((w'.drewN (nq + 1)).setCell ⟨g, j, none⟩ (.int .i64 d')).setCell ⟨g, j - 1, none⟩ (.int .i64 d)) from ((below_drewN B9.out (nq + 1)).setCell (by exact hgb) _).setCell (by exact hgb) _)
          clear hc0 hc1 hf0 hf1
          go_wp2_with fail
          refine (Sum_n _ _ c5 ((L.set j d').set (j - 1) d) S' 0 _ (by simp; rw [HLn.out]) (Rd.of_own O10.out) (by omega) (HT.out.below' B10.out) HS'.out HSW.out.1).mono ?_
          rintro e w' ⟨rfl, m', hw⟩
          have B11 := Lib.hid (show Below w.heap.size w w' by rw [hw]; exact below_drewN B10.out m')
          clear hw
          go_wp2_with fail
          refine (known_ok _ (HT.out.below' B11.out)).mono ?_
          rintro e w' ⟨rfl, hb⟩
          go_wp2_with fail
          go_ret
          exact ⟨rfl, (B11.out).trans (hb.mono (B11.out).size)⟩

  · generalize digE l 11 = f at *
    generalize chkV l = k at *
    have hf : (f == 0) = false := by simpa using h0
    have hf' : (f != 0) = true := by simpa using h0
    clear h0
    go_enter Tryd.func6, Tryd.ntmps6
    go_wp2_with fail
    refine C1.out.mono ?_
    rintro e w2 ⟨rfl, hb⟩
    have B2 := Lib.hid hb
    clear hb
    go_wp2_with fail
    refine (known_ok _ (HT.out.below' B2.out)).mono ?_
    rintro e w' ⟨rfl, hb⟩
    go_wp2_with fail
    go_ret
    exact ⟨rfl, B2.out.trans (hb.mono B2.out.size)⟩

end Go.Proofs.YtjpnpbnhkljciaaDoor

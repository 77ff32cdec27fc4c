/-
  Proofs of pages in the reference: the walks of sides, Depth, proof, Proof; of Proof of the program; of SameInts. Condition: the lists can be read.
-/
import Derived.Test.YtklhjiagkkhldaaBt5
import Derived.Deep.RegionLaw
namespace Go.Proofs.Ytklhjiagkkhldaa
open Go.RowKit
set_option linter.unusedVariables false

theorem eBoolB : Elem Try.prog 62 4 (.bool false) 1 1 := ⟨Try.underlying62, by kernel_rfl, rfl, by decide, by decide⟩
def bools (l : List Bool) : List Value := l.map Value.bool
theorem bools_one (l : List Bool) : ∀ u ∈ bools l, u.oneCell' = true := by
  intro u hu
  obtain ⟨d, _, rfl⟩ := List.mem_map.1 hu
  rfl
theorem bools_append (a b : List Bool) : bools (a ++ b) = bools a ++ bools b := by simp [bools]
theorem Rd.bool {w : World} {B : Nat} {A : Option Addr} {l : List Bool} (h : Rd w B A (bools l)) (k : Nat) (hk : k < l.length) :
    ∃ b o d, A = some ⟨b, o, none⟩ ∧ Hid (l[k]? = some d) ∧ w.cell? ⟨b, o + k, none⟩ = some (.bool d) := by
  obtain ⟨b, o, ha, _, hc⟩ := h.at_ (show (bools l)[k]? = some (.bool l[k]) by simp [bools, List.getElem?_eq_getElem hk])
  exact ⟨b, o, _, ha, (List.getElem?_eq_getElem hk : _), hc⟩
set_option maxRecDepth 4000 in
set_option maxHeartbeats 4000000 in
theorem sides_any : ∀ (n i : Nat) (w : World), 1 ≤ n → n ≤ 64 → i < n → Calls Try.prog 60 #[.int .i64 i, .int .i64 n] w fun e w' => ∃ A' c', e = .returned (.slice A' (dpN i n) c') ∧ w'.ownsRow w.heap.size 4 1 (.slice A' (dpN i n) c') (dpN i n) (bools (sdL i n)) ∧ Below w.heap.size w w' := by
  intro n
  induction n using Nat.strongRecOn with
  | _ n ih =>
    intro i w h1 h64 hin
    by_cases hn : n < 2
    · have e1 : decide ((n : Int) < 2) = true := decide_eq_true (by omega)
      have e1' : decide (n < 2) = true := decide_eq_true hn
      have HX := Lib.hid (show dpN i n = 0 ∧ sdL i n = [] from ⟨dp_one hn, sd_one hn⟩)
      rw [HX.out.1, HX.out.2]
      clear ih hn
      go_enter Try.func60, Try.ntmps60
      go_wp2_with fail
      go_ret
      exact ⟨none, 0, rfl, World.ownsRow_nil _ _ _ _, Below.refl _ _⟩
    have e0 : decide ((n : Int) < 2) = false := decide_eq_false (by omega)
    have e0' : decide (n < 2) = false := decide_eq_false hn
    have hsp := sp_lt (n := n) (by omega)
    have HS := Lib.hid (rsplit_any n w (by omega) h64)
    by_cases hi : i < spN n
    · have HD := Lib.hid (show dpN i n = dpN i (spN n) + 1 from dp_left (by omega) hi)
      have HX := Lib.hid (show sdL i n = sdL i (spN n) ++ [false] from sd_left (by omega) hi)
      have HC := Lib.hid (ih (spN n) hsp.2 i w (by omega) (by omega) hi)
      have hle := dp_le (spN n) i
      generalize dpN i (spN n) = d at *
      generalize sdL i (spN n) = P at *
      generalize spN n = k at *
      have e1 : decide ((i : Int) < (k : Int)) = true := decide_eq_true (by omega)
      have e1' : decide (i < k) = true := decide_eq_true hi
      clear ih
      go_enter Try.func60, Try.ntmps60
      go_wp2_with fail
      refine (HS.out).mono ?_
      rintro e w' ⟨rfl, rfl⟩
      go_wp2_with fail
      refine HC.out.mono ?_
      rintro e w2 ⟨A1, c1, rfl, ho, hb⟩
      have O2 := Lib.hid ho
      have B2 := Lib.hid hb
      clear ho hb
      go_wp2_with ((with_reducible show wpList _ _ _ (⟨some 17, _, _, _, _, _⟩ :: _) _ _); refine app eBoolB rfl (.tmp 15) (.tmp 16) rfl rfl (O2.out.alloc _) (B2.out.alloc B2.out.size (.cells #[.bool false] 4)) (size_alloc' B2.out.size _) rfl (Rd.one w2 (.bool false) 4 (Nat.lt_succ_self _)) (by simp) (bools_one [false]) (d + 1) rfl (by omega) ?_; intro A2 c2 w3 o2 b2 _ _; have O3 := Lib.hid (show w3.ownsRow w.heap.size 4 1 (.slice A2 (d + 1) c2) (d + 1) (bools (P ++ [false])) by rw [bools_append]; exact o2); have B4 := Lib.hid b2; clear o2 b2)
      go_ret
      exact ⟨A2, c2, by rw [HD.out]; rfl, by rw [HD.out, HX.out]; exact O3.out, B4.out⟩
    · have HD := Lib.hid (show dpN i n = dpN (i - spN n) (n - spN n) + 1 from dp_right (by omega) (by omega))
      have HX := Lib.hid (show sdL i n = sdL (i - spN n) (n - spN n) ++ [true] from sd_right (by omega) (by omega))
      have HC := Lib.hid (ih (n - spN n) (by omega) (i - spN n) w (by omega) (by omega) (by omega))
      have hle := dp_le (n - spN n) (i - spN n)
      generalize dpN (i - spN n) (n - spN n) = d at *
      generalize sdL (i - spN n) (n - spN n) = P at *
      generalize spN n = k at *
      have e1 : decide ((i : Int) < (k : Int)) = false := decide_eq_false (by omega)
      have e1' : decide (i < k) = false := decide_eq_false hi
      rw [show ((i - k : Nat) : Int) = (i : Int) - (k : Int) by omega, show ((n - k : Nat) : Int) = (n : Int) - (k : Int) by omega] at HC
      clear ih
      go_enter Try.func60, Try.ntmps60
      go_wp2_with fail
      refine (HS.out).mono ?_
      rintro e w' ⟨rfl, rfl⟩
      go_wp2_with fail
      refine HC.out.mono ?_
      rintro e w2 ⟨A1, c1, rfl, ho, hb⟩
      have O2 := Lib.hid ho
      have B2 := Lib.hid hb
      clear ho hb
      go_wp2_with ((with_reducible show wpList _ _ _ (⟨some 26, _, _, _, _, _⟩ :: _) _ _); refine app eBoolB rfl (.tmp 24) (.tmp 25) rfl rfl (O2.out.alloc _) (B2.out.alloc B2.out.size (.cells #[.bool true] 4)) (size_alloc' B2.out.size _) rfl (Rd.one w2 (.bool true) 4 (Nat.lt_succ_self _)) (by simp) (bools_one [true]) (d + 1) rfl (by omega) ?_; intro A2 c2 w3 o2 b2 _ _; have O3 := Lib.hid (show w3.ownsRow w.heap.size 4 1 (.slice A2 (d + 1) c2) (d + 1) (bools (P ++ [true])) by rw [bools_append]; exact o2); have B4 := Lib.hid b2; clear o2 b2)
      go_ret
      exact ⟨A2, c2, by rw [HD.out]; rfl, by rw [HD.out, HX.out]; exact O3.out, B4.out⟩
theorem rDepth_any (i n : Int) (w : World) : Calls Try.prog 29 #[.int .i64 i, .int .i64 n] w fun e w' => e = .returned (.tuple #[.int .i64 (dpV i n), .int .i64 (plE i n)]) ∧ Below w.heap.size w w' := by
  have HP := Lib.hid (place_any i n w)
  by_cases hv : plE i n = 0
  · have HV := Lib.hid (show dpV i n = (dpN i.toNat n.toNat : Int) from if_pos hv)
    obtain ⟨h1, h2, h3, h4⟩ := plE_ok hv
    obtain ⟨a, rfl⟩ : ∃ a : Nat, i = (a : Int) := ⟨i.toNat, by omega⟩
    obtain ⟨b, rfl⟩ : ∃ b : Nat, n = (b : Int) := ⟨n.toNat, by omega⟩
    have HD := Lib.hid (sides_any b a w (by omega) (by omega) (by omega))
    rw [HV.out, show ((a : Int)).toNat = a from rfl, show ((b : Int)).toNat = b from rfl]
    rw [hv] at HP ⊢
    generalize dpN a b = x at *
    clear hv h1 h2 h3 h4
    go_enter Try.func29, Try.ntmps29
    go_wp2_with fail
    refine (HP.out).mono ?_
    rintro e w' ⟨rfl, rfl⟩
    go_wp2_with fail
    refine HD.out.mono ?_
    rintro e w2 ⟨A1, c1, rfl, _, hb⟩
    go_wp2_with fail
    go_ret2
    exact ⟨rfl, hb⟩
  · have HV := Lib.hid (show dpV i n = 0 from if_neg hv)
    have e1 : (plE i n != 0) = true := by simpa using hv
    rw [HV.out]
    generalize plE i n = E at *
    clear hv
    go_enter Try.func29, Try.ntmps29
    go_wp2_with fail
    refine (HP.out).mono ?_
    rintro e w' ⟨rfl, rfl⟩
    go_wp2_with fail
    go_ret2
    exact ⟨rfl, Below.refl _ _⟩
theorem eqI_next {a b : List Int} {k : Nat} {x y : Int} (hx : a[k]? = some x) (hy : b[k]? = some y) (h : a.take k = b.take k) (he : x = y) : a.take (k + 1) = b.take (k + 1) := by
  rw [List.take_add_one, List.take_add_one, hx, hy, h, he]
theorem eqI_bad {a b : List Int} {k : Nat} {x y : Int} (hx : a[k]? = some x) (hy : b[k]? = some y) (he : ¬ x = y) : decide (a = b) = false := decide_eq_false fun h => he (by
  rw [h, hy] at hx
  injection hx with hx
  exact hx.symm)
set_option maxRecDepth 4000 in
set_option maxHeartbeats 1000000 in
theorem SameInts_any (A A' : Option Addr) (c c' : Nat) (a b : List Int) (w : World) (hr : Rd w w.heap.size A (ints a)) (hr' : Rd w w.heap.size A' (ints b)) (hl : a.length ≤ 9223372036854775807) (hl' : b.length ≤ 9223372036854775807) :
    Calls Try.prog 30 #[.slice A a.length c, .slice A' b.length c'] w fun e w' => e = .returned (.bool (decide (a = b))) ∧ ∃ m, w' = w.drewN m := by
  have HR := Lib.hid hr
  have HR' := Lib.hid hr'
  clear hr hr'
  by_cases hab : a.length = b.length
  · have e1 : (((a.length : Nat) : Int) != ((b.length : Nat) : Int)) = false := by rw [hab]; simp
    have e2 : ((a.length : Nat) != b.length) = false := by rw [hab]; simp
    have HAB := Lib.hid hab
    clear hab
    go_enter Try.func30, Try.ntmps30
    go_wp2_with fail
    go_loopw [5] (fun i wr => ∃ k : Nat, k ≤ a.length ∧ i = .int .i64 k ∧ a.take k = b.take k ∧ ∃ m, wr = w.drewN m) (fun i _ => a.length - (intOf i).toNat)
    case atStart => exact ⟨0, by omega, rfl, rfl, 0, rfl⟩
    case round =>
      obtain ⟨k, hk, rfl, hall, m, rfl⟩ := hrel
      have HA := Lib.hid hall
      clear hall
      by_cases hlt : k < a.length
      · have hlt' : k < b.length := by have := HAB.out; omega
        obtain ⟨b1, o1, x, hA1, hx, hc⟩ := HR.out.int k hlt
        obtain ⟨b2, o2, y, hA2, hy, hc'⟩ := HR'.out.int k hlt'
        have HX1 := Lib.hid hA1
        have HX2 := Lib.hid hA2
        subst hA1 hA2
        have b0 : (0 : Int) ≤ (k : Int) := by omega
        have b1' : (k : Int) < (a.length : Int) := by omega
        have b2' : (k : Int) < (b.length : Int) := by omega
        by_cases he : x = y
        · have HX := Lib.hid (eqI_next hx.out hy.out HA.out he)
          have e4 : (x != y) = false := by simpa using he
          clear he
          go_wp2_with fail
          go_quiet (fail)
          go_wp2_with fail
          go_roundw
          case rel => exact ⟨k + 1, by omega, by go_num, HX.out, _, rfl⟩
          case measure => simp [intOf]; omega
        · have HX := Lib.hid (eqI_bad hx.out hy.out he)
          have e4 : (x != y) = true := by simpa using he
          clear he
          go_wp2_with fail
          go_quiet (fail)
          go_wp2_with fail
          go_ret
          exact ⟨by rw [HX.out]; rfl, _, World.drewN_drewN _ _ _⟩
      · have hks : k = a.length := by omega
        have HX := Lib.hid (show decide (a = b) = true by
          have h := HA.out
          rw [hks, List.take_length, HAB.out, List.take_length] at h
          exact decide_eq_true h)
        subst hks
        go_wp2_with fail
        go_ret
        exact ⟨by rw [HX.out]; rfl, _, rfl⟩
  · have e1 : (((a.length : Nat) : Int) != ((b.length : Nat) : Int)) = true := by simp; omega
    have e2 : ((a.length : Nat) != b.length) = true := by simpa using hab
    have HX := Lib.hid (show decide (a = b) = false from decide_eq_false fun h => hab (by rw [h]))
    clear hab
    go_enter Try.func30, Try.ntmps30
    go_wp2_with fail
    go_ret
    exact ⟨by rw [HX.out]; rfl, 0, rfl⟩
end Go.Proofs.Ytklhjiagkkhldaa

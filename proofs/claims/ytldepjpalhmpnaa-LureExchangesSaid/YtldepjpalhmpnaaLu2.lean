/-
  Sets of places: the walks of within, isSet, bits, list of the reference; SameInts, Has. No condition.
-/
import Derived.Test.YtldepjpalhmpnaaLu1
namespace Go.Proofs.Ytldepjpalhmpnaa
open Go.RowKit
set_option linter.unusedVariables false

def inW (lo hi d : Int) : Bool := decide (lo ≤ d) && decide (d ≤ hi)
theorem inW_no {lo hi d : Int} (h : d < lo ∨ hi < d) : inW lo hi d = false := by
  unfold inW
  rcases h with h | h
  · rw [decide_eq_false (show ¬ lo ≤ d by omega)]; rfl
  · rw [decide_eq_false (show ¬ d ≤ hi by omega), Bool.and_false]
theorem inW_yes {lo hi d : Int} (h1 : ¬ d < lo) (h2 : ¬ hi < d) : inW lo hi d = true := by
  unfold inW
  rw [decide_eq_true (show lo ≤ d by omega), decide_eq_true (show d ≤ hi by omega)]
  rfl
theorem inW_iff {lo hi d : Int} : inW lo hi d = true ↔ lo ≤ d ∧ d ≤ hi := by simp [inW]
theorem within_any (d lo hi : Int) (w : World) : Calls Try.prog 29 #[.int .i64 d, .int .i64 lo, .int .i64 hi] w fun e w' => e = .returned (.bool (inW lo hi d)) ∧ w = w' := by
  by_cases h1 : lo ≤ d
  · have e1 : decide (lo ≤ d) = true := by simpa using h1
    by_cases h2 : d ≤ hi
    · have e2 : decide (d ≤ hi) = true := by simpa using h2
      have HE := Lib.hid (show inW lo hi d = true from inW_iff.2 ⟨h1, h2⟩)
      clear h1 h2
      go_enter Try.func29, Try.ntmps29
      go_wp2_with fail
      go_ret
      exact ⟨by rw [HE.out]; rfl, rfl⟩
    · have e2 : decide (d ≤ hi) = false := by simpa using h2
      have HE := Lib.hid (show inW lo hi d = false from inW_no (.inr (by omega)))
      clear h1 h2
      go_enter Try.func29, Try.ntmps29
      go_wp2_with fail
      go_ret
      exact ⟨by rw [HE.out]; rfl, rfl⟩
  · have e1 : decide (lo ≤ d) = false := by simpa using h1
    have HE := Lib.hid (show inW lo hi d = false from inW_no (.inl (by omega)))
    clear h1
    go_enter Try.func29, Try.ntmps29
    go_wp2_with fail
    go_ret
    exact ⟨by rw [HE.out]; rfl, rfl⟩
set_option maxRecDepth 4000 in
set_option maxHeartbeats 800000 in
theorem risSet_any (A : Option Addr) (c : Nat) (L : List Int) (lim most : Int) (w : World) (hr : Rd w w.heap.size A (ints L)) (hn : L.length ≤ 9223372036854775807) (hlim : most + 1 = lim) (hl0 : 0 ≤ lim) (hl1 : lim ≤ 9223372036854775807) :
    Calls Try.prog 30 #[.slice A L.length c, .int .i64 lim] w fun e w' => e = .returned (.bool (setL lim L)) ∧ ∃ m, w' = w.drewN m := by
  have HR := Lib.hid hr
  have HLim := Lib.hid hlim
  have hwm : IntKind.i64.wrap (lim - 1) = most := by rw [IntKind.wrap_i64]; omega
  have HWi := Lib.hid (fun (d : Int) (w : World) => within_any d 0 most w)
  clear hr hlim
  go_enter Try.func30, Try.ntmps30
  go_wp2
  go_loopw [5] (fun i wr => ∃ k : Nat, k ≤ L.length ∧ i = .int .i64 k ∧ (∀ j, j < k → okI lim L j = true) ∧ ∃ m, wr = w.drewN m) (fun i _ => L.length - (intOf i).toNat)
  case atStart => exact ⟨0, by omega, rfl, fun j hj => by omega, 0, rfl⟩
  case round =>
    obtain ⟨k, hk, rfl, hall, m, rfl⟩ := hrel
    have HA := Lib.hid hall
    clear hall
    by_cases hlt : k < L.length
    · obtain ⟨b, o, d, rfl, hd, hc⟩ := HR.out.int k hlt
      have hok : okI lim L k = (decide (prv L k < d) && decide (d < lim)) := by unfold okI; rw [getD_at hd.out]
      have HB := Lib.hid (fun h => setL_bad (lim := lim) hlt h)
      have HO := Lib.hid (show okI lim L k = true → ∀ j, j < k + 1 → okI lim L j = true from fun h j hj => by
        rcases Nat.lt_or_ge j k with h1 | h1
        · exact HA.out j h1
        · obtain rfl : j = k := by omega
          exact h)
      have hlm := HLim.out
      have b1 : (k : Int) < (L.length : Int) := by omega
      have b0 : (0 : Int) ≤ (k : Int) := by omega
      rcases Nat.eq_zero_or_pos k with hk0 | hk0
      · subst hk0
        have hp : prv L 0 = -1 := rfl
        rw [hp] at hok
        rw [Nat.add_zero] at hc
        by_cases h1 : d < 0
        · have HQ := Lib.hid (fun (w : World) => (show inW 0 most d = false from inW_no (.inl h1)) ▸ HWi.out d w)
          have HE := Lib.hid (HB.out (by rw [hok, decide_eq_false (show ¬ (-1 : Int) < d by omega)]; rfl))
          clear h1 hok hp hlm
          go_wp2_with fail
          go_quiet ((go_at_call 29; exact qs (HQ.out _)))
          go_wp2_with fail
          go_ret
          exact ⟨by rw [HE.out]; rfl, _, World.drewN_drewN _ _ _⟩
        · by_cases h2 : most < d
          · have HQ := Lib.hid (fun (w : World) => (show inW 0 most d = false from inW_no (.inr h2)) ▸ HWi.out d w)
            have HE := Lib.hid (HB.out (by rw [hok, decide_eq_false (show ¬ d < lim by omega), Bool.and_false]))
            clear h1 h2 hok hp hlm
            go_wp2_with fail
            go_quiet ((go_at_call 29; exact qs (HQ.out _)))
            go_wp2_with fail
            go_ret
            exact ⟨by rw [HE.out]; rfl, _, World.drewN_drewN _ _ _⟩
          · have HQ := Lib.hid (fun (w : World) => (show inW 0 most d = true from inW_yes h1 h2) ▸ HWi.out d w)
            have HN := Lib.hid (HO.out (by rw [hok, decide_eq_true (show (-1 : Int) < d by omega), decide_eq_true (show d < lim by omega)]; rfl))
            clear h1 h2 hok hp hlm
            go_wp2_with fail
            go_quiet ((go_at_call 29; exact qs (HQ.out _)))
            go_wp2_with fail
            go_roundw
            case rel => exact ⟨1, by omega, by go_num, HN.out, _, rfl⟩
            case measure => simp [intOf]; omega
      · obtain ⟨k, rfl⟩ : ∃ j, k = j + 1 := ⟨k - 1, by omega⟩
        obtain ⟨b', o', d0, hbo, hd0, hc0⟩ := HR.out.int k (by omega)
        cases hbo
        have hp : prv L (k + 1) = d0 := prv_next hd0.out
        rw [hp] at hok
        have hpos : 0 ≤ d0 := by
          have := ok_pos (lim := lim) (L := L) (k := k) fun j hj => HA.out j (by omega)
          rw [getD_at hd0.out] at this
          exact this
        have e3 : IntKind.i64.wrap (((k + 1 : Nat) : Int) - 1) = (k : Int) := by rw [IntKind.wrap_i64]; omega
        have b2 : (0 : Int) < ((k + 1 : Nat) : Int) := by omega
        have b3 : (k : Int) < (L.length : Int) := by omega
        by_cases h1 : d < 0
        · have HQ := Lib.hid (fun (w : World) => (show inW 0 most d = false from inW_no (.inl h1)) ▸ HWi.out d w)
          have HE := Lib.hid (HB.out (by rw [hok, decide_eq_false (show ¬ d0 < d by omega)]; rfl))
          clear h1 hok hp hlm hpos
          go_wp2_with fail
          go_quiet ((go_at_call 29; exact qs (HQ.out _)))
          go_wp2_with fail
          go_ret
          exact ⟨by rw [HE.out]; rfl, _, World.drewN_drewN _ _ _⟩
        · by_cases h2 : most < d
          · have HQ := Lib.hid (fun (w : World) => (show inW 0 most d = false from inW_no (.inr h2)) ▸ HWi.out d w)
            have HE := Lib.hid (HB.out (by rw [hok, decide_eq_false (show ¬ d < lim by omega), Bool.and_false]))
            clear h1 h2 hok hp hlm hpos
            go_wp2_with fail
            go_quiet ((go_at_call 29; exact qs (HQ.out _)))
            go_wp2_with fail
            go_ret
            exact ⟨by rw [HE.out]; rfl, _, World.drewN_drewN _ _ _⟩
          · have HQ := Lib.hid (fun (w : World) => (show inW 0 most d = true from inW_yes h1 h2) ▸ HWi.out d w)
            by_cases h4 : d ≤ d0
            · have e4 : decide (d ≤ d0) = true := by simpa using h4
              have HE := Lib.hid (HB.out (by rw [hok, decide_eq_false (show ¬ d0 < d by omega)]; rfl))
              clear h1 h2 h4 hok hp hlm hpos
              go_wp2_with fail
              go_quiet ((go_at_call 29; exact qs (HQ.out _)))
              go_wp2_with fail
              go_ret
              exact ⟨by rw [HE.out]; rfl, _, World.drewN_drewN _ _ _⟩
            · have e4 : decide (d ≤ d0) = false := by simpa using h4
              have HN := Lib.hid (HO.out (by rw [hok, decide_eq_true (show d0 < d by omega), decide_eq_true (show d < lim by omega)]; rfl))
              clear h1 h2 h4 hok hp hlm hpos
              go_wp2_with fail
              go_quiet ((go_at_call 29; exact qs (HQ.out _)))
              go_wp2_with fail
              go_roundw
              case rel => exact ⟨k + 1 + 1, by omega, by go_num, HN.out, _, rfl⟩
              case measure => simp [intOf]; omega
    · have hks : k = L.length := by omega
      subst hks
      have HE := Lib.hid (setL_ok HA.out)
      go_wp2_with fail
      go_ret
      exact ⟨by rw [HE.out]; rfl, _, rfl⟩
set_option maxRecDepth 4000 in
theorem SameInts_same (A1 A2 : Option Addr) (c1 c2 : Nat) (l : List Int) (n1 n2 : Nat) (w : World) (hl1 : l.length = n1) (hl2 : l.length = n2) (hr1 : Rd w w.heap.size A1 (ints l)) (hr2 : Rd w w.heap.size A2 (ints l)) (hn : n1 ≤ 1000) :
    Calls Try.prog 13 #[.slice A1 n1 c1, .slice A2 n2 c2] w fun e w' => e = .returned (.bool true) ∧ ∃ n, w' = w.drewN n := by
  subst hl1
  subst hl2
  have R1 := Lib.hid hr1
  have R2 := Lib.hid hr2
  clear hr1 hr2
  go_enter Try.func13, Try.ntmps13
  go_wp2_with fail
  go_loopw [5] (fun i wr => ∃ k : Nat, k ≤ l.length ∧ i = .int .i64 k ∧ ∃ m, wr = w.drewN m) (fun i _ => l.length - (intOf i).toNat)
  case atStart => exact ⟨0, by omega, rfl, 0, rfl⟩
  case round =>
    obtain ⟨k, hk, rfl, m, rfl⟩ := hrel
    by_cases hlt : k < l.length
    · obtain ⟨b, o, d, rfl, hd, hc⟩ := R1.out.int k hlt
      obtain ⟨b', o', d', rfl, hd', hc'⟩ := R2.out.int k hlt
      have hdd : d' = d := by
        have := hd.out
        rw [hd'.out] at this
        exact Option.some.inj this
      subst hdd
      go_wp2_with fail
      go_quiet (fail)
      go_wp2
      go_roundw
      case rel => exact ⟨k + 1, by omega, by go_num, _, rfl⟩
      case measure => simp [intOf]; omega
    · have hks : k = l.length := by omega
      have HK := Lib.hid hks
      clear hks
      go_wp2_with fail
      go_ret
      exact ⟨rfl, _, rfl⟩

theorem gat_next64 {L : List Int} {k n : Nat} (h : L[k]? = some (n : Int)) (hn : n < 31) : bits .or .i64 ((gatN (L.take k) : Nat) : Int) ((2 ^ n : Nat) : Int) = ((gatN (L.take (k + 1)) : Nat) : Int) := by
  have h2 : 2 ^ n < 2 ^ 32 := Nat.pow_lt_pow_right (by omega) (by omega)
  have h3 : 2 ^ n < 4294967296 := h2
  have hg : gatN (L.take k) < 4294967296 := bit32 _
  rw [i64_or_nat _ _ (by omega) (by omega)]
  congr 1
  refine ext32 (show _ < 2 ^ 32 from Nat.or_lt_two_pow hg h3) (bit32 _) fun j hj => ?_
  unfold gatN
  rw [Nat.testBit_or, bitK_test _ _ _ hj, bitK_test _ _ _ hj, memB_next h, Nat.testBit_two_pow]
theorem shl_i64 {n : Nat} (h : n < 32) : wrap64 ((2 : Int) ^ n) = ((2 ^ n : Nat) : Int) := by
  have e : (2 : Int) ^ n = ((2 ^ n : Nat) : Int) := by simp
  have hp : 2 ^ n < 2 ^ 32 := Nat.pow_lt_pow_right (by omega) h
  rw [e]
  generalize 2 ^ n = P at *
  exact IntWalk.wrap64_in _ ⟨by omega, by omega⟩
theorem shr_bit (n i : Nat) (hn : n < 9223372036854775808) : (bits .and .i64 ((n : Int) / 2 ^ i) 1 == 1) = n.testBit i := by
  have h := bit_div (n := n) (j := i)
  have e : (n : Int) / 2 ^ i = ((n / 2 ^ i : Nat) : Int) := by simp
  have hd : n / 2 ^ i ≤ n := Nat.div_le_self _ _
  rw [e, show (1 : Int) = ((1 : Nat) : Int) from rfl, i64_and_nat _ _ (by omega) (by decide), Nat.and_one_is_mod, h]
  cases n.testBit i <;> rfl
theorem list_stop {x k : Nat} (h : x / 2 ^ k = 0) (hk : k ≤ 16) : listK x.testBit k = lst x := by
  have hx : x < 2 ^ k := by
    rcases Nat.lt_or_ge x (2 ^ k) with h1 | h1
    · exact h1
    · have := Nat.div_pos h1 (Nat.two_pow_pos k)
      omega
  exact (listK_high (fun j hj => high_bits hx hj) hk).symm
theorem has_next {L : List Int} {k : Nat} {d n : Int} (h : L[k]? = some d) (hn : ∀ j, j < k → ¬ L.getD j 0 = n) (hd : ¬ d = n) : ∀ j, j < k + 1 → ¬ L.getD j 0 = n := fun j hj => by
  rcases Nat.lt_or_ge j k with h1 | h1
  · exact hn j h1
  · obtain rfl : j = k := by omega
    rw [getD_at h]; exact hd
theorem has_end {L : List Int} {n : Int} (hn : ∀ j, j < L.length → ¬ L.getD j 0 = n) : decide (n ∈ L) = false := by
  rw [decide_eq_false_iff_not]
  intro hm
  obtain ⟨j, hj, he⟩ := List.getElem_of_mem hm
  exact hn j hj (by rw [List.getD_eq_getElem?_getD, List.getElem?_eq_getElem hj]; exact he)
set_option maxRecDepth 4000 in
theorem Has_any (A : Option Addr) (c : Nat) (L : List Int) (n : Int) (w : World) (hr : Rd w w.heap.size A (ints L)) (hl : L.length ≤ 9223372036854775807) :
    Calls Try.prog 11 #[.slice A L.length c, .int .i64 n] w fun e w' => e = .returned (.bool (decide (n ∈ L))) ∧ w = w' := by
  have HR := Lib.hid hr
  clear hr
  have HE := Lib.hid (fun h => has_end (L := L) (n := n) h)
  have HM := Lib.hid (fun (h : n ∈ L) => (decide_eq_true h : decide (n ∈ L) = true))
  generalize decide (n ∈ L) = B at *
  go_enter Try.func11, Try.ntmps11
  go_wp2
  go_loop [5] (fun i => ∃ k : Nat, k ≤ L.length ∧ i = .int .i64 k ∧ ∀ j, j < k → ¬ L.getD j 0 = n) (fun i => L.length - (intOf i).toNat)
  case atStart => exact ⟨0, by omega, rfl, fun j hj => by omega⟩
  case round =>
    obtain ⟨k, hk, rfl, hall⟩ := hrel
    have HA := Lib.hid hall
    clear hall
    by_cases hlt : k < L.length
    · obtain ⟨b, o, d, rfl, hd, hc⟩ := HR.out.int k hlt
      by_cases h1 : d = n
      · subst h1
        have HB := Lib.hid (HM.out (List.mem_of_getElem? hd.out))
        go_wp2_with fail
        go_ret
        exact ⟨by rw [HB.out]; rfl, rfl⟩
      · have HN := Lib.hid (has_next hd.out HA.out h1)
        have e1 : (d == n) = false := by simpa using h1
        clear h1
        go_wp2_with fail
        go_round
        case rel => exact ⟨k + 1, by omega, by go_num, HN.out⟩
        case measure => simp [intOf]; omega
    · have hks : k = L.length := by omega
      subst hks
      have HB := Lib.hid (HE.out HA.out)
      go_wp2_with fail
      go_ret
      exact ⟨by rw [HB.out]; rfl, rfl⟩
end Go.Proofs.Ytldepjpalhmpnaa

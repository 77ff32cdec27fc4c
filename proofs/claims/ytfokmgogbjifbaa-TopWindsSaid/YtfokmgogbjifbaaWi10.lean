/-
  Pipes: which lists are some, which can be worked; the walks of ValidatePipes of both sides, everyPipe, workable, covered. No condition.
-/
import Derived.Test.YtfokmgogbjifbaaWi9
namespace Go.Proofs.Ytfokmgogbjifbaa
open Go.RowKit
set_option linter.unusedVariables false

def okA (a : Pt) : Bool := pt a.x && wd a.y
theorem arcE_yes {a : Pt} (h : okA a = true) : arcE a = 0 := by unfold arcE; unfold okA at h; rw [if_pos h]
theorem arcE_no {a : Pt} (h : okA a = false) : arcE a = 1 := by unfold arcE; unfold okA at h; rw [if_neg (by rw [h]; decide)]
def pipesE (l : List Pt) : Int := if 10 < l.length then 3 else if l.all okA then 0 else 1
theorem pipesE_bad {l : List Pt} (hn : ¬ 10 < l.length) {k : Nat} {a : Pt} (hx : l[k]? = some a) (h : okA a = false) : pipesE l = 1 := by
  unfold pipesE
  rw [if_neg hn, if_neg]
  rw [Bool.not_eq_true, List.all_eq_false]
  exact ⟨a, List.mem_of_getElem? hx, by simp [h]⟩
theorem pipesE_ok {l : List Pt} (hn : ¬ 10 < l.length) (h : ∀ (j : Nat) a, j < l.length → l[j]? = some a → okA a = true) : pipesE l = 0 := by
  unfold pipesE
  rw [if_neg hn, if_pos]
  refine List.all_eq_true.2 fun p hp => ?_
  obtain ⟨j, hj, he⟩ := List.getElem_of_mem hp
  exact h j p hj (by rw [← he]; exact List.getElem?_eq_getElem hj)
theorem pipesE_zero {l : List Pt} (h : pipesE l = 0) : l.length ≤ 10 ∧ ∀ a ∈ l, okA a = true := by
  unfold pipesE at h
  split at h
  · cases h
  · split at h
    · rename_i h1 h2
      exact ⟨by omega, fun a ha => List.all_eq_true.1 h2 a ha⟩
    · cases h
theorem okA_next {l : List Pt} {k : Nat} {d : Pt} (hd : l[k]? = some d) (h : okA d = true) (ha : ∀ (j : Nat) a, j < k → l[j]? = some a → okA a = true) : ∀ (j : Nat) a, j < k + 1 → l[j]? = some a → okA a = true := fun j x hj hx => by
  by_cases hjk : j = k
  · subst hjk
    have := hd.symm.trans hx
    cases this
    exact h
  · exact ha j x (by omega) hx
set_option maxRecDepth 4000 in
theorem ValidatePipes_any (A : Option Addr) (c : Nat) (l : List Pt) (w : World) (hr : Rd w w.heap.size A (l.flatMap Pt.cells)) (hn : l.length ≤ 9223372036854775807) :
    Calls Try.prog 16 #[.slice A l.length c] w fun e w' => e = .returned (.int .i64 (pipesE l)) ∧ Below w.heap.size w w' := by
  have HR := Lib.hid hr
  clear hr
  by_cases h8 : 10 < l.length
  · have hE : pipesE l = 3 := if_pos h8
    rw [hE]
    have h8' : (10 : Int) < (l.length : Int) := by omega
    clear hE h8
    go_enter Try.func16, Try.ntmps16
    go_wp2
    go_ret
    exact ⟨rfl, Below.refl _ _⟩
  · have H8 := Lib.hid h8
    have h8' : ¬ (10 : Int) < (l.length : Int) := by omega
    go_enter Try.func16, Try.ntmps16
    go_wp2
    clear h8' h8
    go_loopw [11] (fun i wr => ∃ k : Nat, k ≤ l.length ∧ i = .int .i64 k ∧ (∀ (j : Nat) a, j < k → l[j]? = some a → okA a = true) ∧ Below w.heap.size w wr) (fun i _ => l.length - (intOf i).toNat)
    case atStart => exact ⟨0, by omega, rfl, fun j x hj => by omega, Below.refl _ _⟩
    case round =>
      obtain ⟨k, hk, rfl, hall, hb⟩ := hrel
      have HA := Lib.hid hall
      have BW := Lib.hid hb
      clear hall hb
      by_cases hlt : k < l.length
      · obtain ⟨b, o, ⟨x, y⟩, rfl, hd, c0, c1'⟩ := (HR.out.below BW.out (Nat.le_refl _)).pt k hlt
        simp only at c0 c1'
        obtain ⟨W, hW, d0, d1, hs, hb0⟩ := one_pt wr (.int .i64 x) (.int .i64 y) 37
        have B0 := Lib.hid (BW.out.trans (hb0.mono BW.out.size))
        have HX := Lib.hid (fun w => ValidateArc_any ⟨x, y⟩ w)
        clear hb0 hs
        cases hq : okA ⟨x, y⟩
        · have hE := Lib.hid (pipesE_bad H8.out hd.out hq)
          rw [arcE_no hq] at HX
          clear hq
          unfold Pt.v at HX
          simp only at HX
          go_wp2_with fail
          clear hW
          go_wp2_with fail
          refine (HX.out W).mono ?_
          rintro e w2 ⟨rfl, hb⟩
          have B2 := Lib.hid (B0.out.trans (hb.mono B0.out.size))
          clear hb
          go_wp2_with fail
          go_ret
          exact ⟨by rw [hE.out]; rfl, B2.out⟩
        · have HN := Lib.hid (okA_next hd.out hq HA.out)
          rw [arcE_yes hq] at HX
          clear hq
          unfold Pt.v at HX
          simp only at HX
          go_wp2_with fail
          clear hW
          go_wp2_with fail
          refine (HX.out W).mono ?_
          rintro e w2 ⟨rfl, hb⟩
          have B2 := Lib.hid (B0.out.trans (hb.mono B0.out.size))
          clear hb
          go_wp2_with fail
          go_roundw
          case rel => exact ⟨k + 1, by omega, by go_num, HN.out, B2.out⟩
          case measure => simp [intOf]; omega
      · have hks : k = l.length := by omega
        subst hks
        have HE := Lib.hid (pipesE_ok H8.out HA.out)
        go_wp2_with fail
        go_ret
        exact ⟨by rw [HE.out]; rfl, BW.out⟩
/-! ### What can be worked -/
def workB (l : List Pt) (p i : Nat) : Bool := match l[i]? with
  | some a => hasN a p
  | none => false
theorem workB_at {l : List Pt} {i p : Nat} {a : Pt} (h : l[i]? = some a) : workB l p i = hasN a p := by unfold workB; rw [h]
def workN (l : List Pt) (p : Nat) : Nat := bitK (workB l p) l.length
theorem bitK_mono (f : Nat → Bool) {k m : Nat} (h : k ≤ m) : 2 ^ k ≤ 2 ^ m := Nat.pow_le_pow_right (by omega) h
theorem bitK_small (f : Nat → Bool) {k : Nat} (h : k ≤ 10) : bitK f k < 1024 := Nat.lt_of_lt_of_le (bitK_lt f k) (Nat.pow_le_pow_right (by omega) h)
theorem bitK_high (f : Nat → Bool) {k j : Nat} (h : k ≤ j) : (bitK f k).testBit j = false :=
  Nat.testBit_lt_two_pow (Nat.lt_of_lt_of_le (bitK_lt f k) (Nat.pow_le_pow_right (by omega) h))
/-- The members of a number's bits, where none is above k. -/
theorem listB_bits (f : Nat → Bool) : ∀ {k : Nat}, k ≤ 32 → listB (bitK f k).testBit = listK f k := by
  intro k hk
  unfold listB
  have key : ∀ m, k ≤ m → listK (bitK f k).testBit m = listK f k := by
    intro m hm
    induction m with
    | zero =>
      obtain rfl : k = 0 := by omega
      rfl
    | succ m ih =>
      rcases Nat.lt_or_ge m k with h | h
      · obtain rfl : k = m + 1 := by omega
        exact listK_congr fun j hj => bitK_test f _ j hj
      · rw [listK_no (bitK_high f h), ih h]
  exact key 32 hk
theorem or_next (f : Nat → Bool) {k : Nat} (hk : k < 31) : bits .or .u32 ((bitK f k : Nat) : Int) ((2 ^ k : Nat) : Int) = ((bitK f k + 2 ^ k : Nat) : Int) := by
  have h2 : 2 ^ k < 2 ^ 32 := Nat.pow_lt_pow_right (by omega) (by omega)
  have h3 : 2 ^ k ≤ 2 ^ 30 := Nat.pow_le_pow_right (by omega) (by omega)
  have h4 := bitK_lt f k
  have e : (2 : Nat) ^ 30 = 1073741824 := by decide
  have e2 : (2 : Nat) ^ 32 = 4294967296 := by decide
  have h1 := Nat.two_pow_add_eq_or_of_lt h4 1
  rw [Nat.mul_one] at h1
  rw [u32_or_nat _ _ (by omega) (by omega), Nat.or_comm, ← h1, Nat.add_comm]
theorem shl_u32 {k : Nat} (hk : k < 31) : (2 : Int) ^ k % 4294967296 = ((2 ^ k : Nat) : Int) := by
  have h2 : 2 ^ k < 2 ^ 32 := Nat.pow_lt_pow_right (by omega) (by omega)
  have e : (2 : Int) ^ k = ((2 ^ k : Nat) : Int) := by simp
  rw [e]
  have e2 : (2 : Nat) ^ 32 = 4294967296 := by decide
  rw [e2] at h2
  generalize 2 ^ k = P at *
  omega
set_option maxRecDepth 4000 in
theorem workable_any (A : Option Addr) (c : Nat) (l : List Pt) (p : Nat) (w : World) (hr : Rd w w.heap.size A (l.flatMap Pt.cells)) (hn : pipesE l = 0) (hp : p < 32) :
    Calls Try.prog 38 #[.slice A l.length c, .int .i64 p] w fun e w' => e = .returned (.int .u32 (workN l p : Nat)) ∧ Below w.heap.size w w' := by
  have HR := Lib.hid hr
  obtain ⟨h10, hok⟩ := pipesE_zero hn
  have HO := Lib.hid hok
  have HP := Lib.hid (fun (a : Pt) (h : okA a = true) w => pointsOf_any a w (arcE_yes h))
  have HH := Lib.hid (fun x w hx => has_any x p w hx hp)
  clear hr hok hn
  go_enter Try.func38, Try.ntmps38
  go_wp2
  go_loopw [5, 10] (fun v i wr => ∃ k : Nat, k ≤ l.length ∧ i = .int .i64 k ∧ v = .int .u32 (bitK (workB l p) k : Nat) ∧ Below w.heap.size w wr) (fun _ i _ => l.length - (intOf i).toNat)
  case atStart => exact ⟨0, by omega, rfl, rfl, Below.refl _ _⟩
  case round =>
    obtain ⟨k, hk, rfl, rfl, hb⟩ := hrel
    have BW := Lib.hid hb
    clear hb
    by_cases hlt : k < l.length
    · obtain ⟨b, o, a, rfl, hd, c0, c1'⟩ := (HR.out.below BW.out (Nat.le_refl _)).pt k hlt
      have hw := workB_at (p := p) hd.out
      have hoka := HO.out a (List.mem_of_getElem? hd.out)
      have HX := Lib.hid (fun w => HP.out a hoka w)
      have HQ := Lib.hid (fun w => HH.out (arcN a) w (arcN_lt a))
      have ht : (arcN a).testBit p = hasN a p := by rw [arcN_is, bitK_test _ _ _ hp]
      rw [ht] at HQ
      have hor := or_next (workB l p) (k := k) (by omega)
      have hsh := shl_u32 (k := k) (by omega)
      have HS := Lib.hid (show bitK (workB l p) (k + 1) = bitK (workB l p) k + if hasN a p then 2 ^ k else 0 by rw [bitK, hw])
      have hbk := bitK_small (workB l p) (k := k) (by omega)
      clear ht hw
      generalize bitK (workB l p) k = N at *
      generalize arcN a = M at *
      obtain ⟨x, y⟩ := a
      unfold Pt.v at HX
      simp only at c0 c1' HX
      obtain ⟨W, hW, d0, d1, hs, hb0⟩ := one_pt wr (.int .i64 x) (.int .i64 y) 37
      have B0 := Lib.hid (BW.out.trans (hb0.mono BW.out.size))
      clear hb0 hs
      have HOr := Lib.hid hor
      have HSh := Lib.hid hsh
      clear hor hsh
      cases hq : hasN ⟨x, y⟩ p
      · rw [hq] at HQ HS
        clear hq
        go_wp2_with fail
        clear hW
        go_wp2_with fail
        refine (HX.out W).mono ?_
        rintro e w2 ⟨rfl, hb⟩
        have B2 := Lib.hid (B0.out.trans (hb.mono B0.out.size))
        clear hb
        go_wp2_with fail
        refine (HQ.out w2).mono ?_
        rintro e w' ⟨rfl, rfl⟩
        go_wp2_with fail
        go_roundw
        case rel => exact ⟨k + 1, by omega, by go_num, by rw [HS.out]; simp, B2.out⟩
        case measure => simp [intOf]; omega
      · rw [hq] at HQ HS
        clear hq
        go_wp2_with fail
        clear hW
        go_wp2_with fail
        refine (HX.out W).mono ?_
        rintro e w2 ⟨rfl, hb⟩
        have B2 := Lib.hid (B0.out.trans (hb.mono B0.out.size))
        clear hb
        go_wp2_with fail
        refine (HQ.out w2).mono ?_
        rintro e w' ⟨rfl, rfl⟩
        go_wp2_with fail
        go_roundw
        case rel => exact ⟨k + 1, by omega, by go_num, by rw [HSh.out, HOr.out, HS.out]; simp, B2.out⟩
        case measure => simp [intOf]; omega
    · have hks : k = l.length := by omega
      subst hks
      go_wp2_with fail
      go_ret
      exact ⟨rfl, BW.out⟩
end Go.Proofs.Ytfokmgogbjifbaa

/-
  The walks of covered, everyPipe, Workable, Lee of package wind; workable, Workable, Lee of the reference; SameInts. No condition.
-/
import Derived.Test.YtfokmgogbjifbaaWi10
namespace Go.Proofs.Ytfokmgogbjifbaa
open Go.RowKit
set_option linter.unusedVariables false

/-- Some of the first k pipes, as f chooses, have the point j. -/
def covK (l : List Pt) (f : Nat → Bool) (k j : Nat) : Bool := (List.range k).any fun i => f i && workB l j i
def covB (l : List Pt) (f : Nat → Bool) (j : Nat) : Bool := covK l f l.length j
def covN (l : List Pt) (f : Nat → Bool) : Nat := bitK (covB l f) 32
theorem covK_next (l : List Pt) (f : Nat → Bool) (k j : Nat) : covK l f (k + 1) j = (covK l f k j || (f k && workB l j k)) := by
  unfold covK
  rw [List.range_succ, List.any_append]
  simp
theorem covB_congr {l : List Pt} {f g : Nat → Bool} (h : ∀ i, i < l.length → f i = g i) (j : Nat) : covB l f j = covB l g j := by
  unfold covB covK
  rw [Bool.eq_iff_iff, List.any_eq_true, List.any_eq_true]
  constructor
  · rintro ⟨i, hi, h1⟩
    exact ⟨i, hi, by rw [← h i (List.mem_range.1 hi)]; exact h1⟩
  · rintro ⟨i, hi, h1⟩
    exact ⟨i, hi, by rw [h i (List.mem_range.1 hi)]; exact h1⟩
theorem covN_congr {l : List Pt} {f g : Nat → Bool} (h : ∀ i, i < l.length → f i = g i) : covN l f = covN l g := bitK_congr fun j _ => covB_congr h j
theorem covN_lt (l : List Pt) (f : Nat → Bool) : covN l f < 4294967296 := bit32 _
theorem cov_or (l : List Pt) (f : Nat → Bool) {k : Nat} {a : Pt} (ha : l[k]? = some a) (hf : f k = true) : bits .or .u32 ((bitK (covK l f k) 32 : Nat) : Int) ((arcN a : Nat) : Int) = ((bitK (covK l f (k + 1)) 32 : Nat) : Int) := by
  rw [u32_or_nat _ _ (bit32 _) (arcN_lt a), arcN_is, bitK_or]
  have e : bitK (fun j => covK l f k j || hasN a j) 32 = bitK (covK l f (k + 1)) 32 := bitK_congr fun j _ => by rw [covK_next, hf, workB_at ha]; rfl
  rw [e]
theorem cov_skip (l : List Pt) (f : Nat → Bool) {k : Nat} (hf : f k = false) : bitK (covK l f (k + 1)) 32 = bitK (covK l f k) 32 := bitK_congr fun j _ => by rw [covK_next, hf]; simp
set_option maxRecDepth 4000 in
theorem covered_any (A : Option Addr) (c : Nat) (l : List Pt) (C : Nat) (w : World) (hr : Rd w w.heap.size A (l.flatMap Pt.cells)) (hn : pipesE l = 0) (hC : C < 4294967296) :
    Calls Try.prog 17 #[.slice A l.length c, .int .u32 C] w fun e w' => e = .returned (.int .u32 (covN l C.testBit : Nat)) ∧ Below w.heap.size w w' := by
  have HR := Lib.hid hr
  obtain ⟨h10, hok⟩ := pipesE_zero hn
  have HO := Lib.hid hok
  have HP := Lib.hid (fun (a : Pt) (h : okA a = true) w => pointsOf_any a w (arcE_yes h))
  have HH := Lib.hid (fun n w hn => has_any C n w hC hn)
  clear hr hok hn
  go_enter Try.func17, Try.ntmps17
  go_wp2
  go_loopw [5, 10] (fun v i wr => ∃ k : Nat, k ≤ l.length ∧ i = .int .i64 k ∧ v = .int .u32 (bitK (covK l C.testBit k) 32 : Nat) ∧ Below w.heap.size w wr) (fun _ i _ => l.length - (intOf i).toNat)
  case atStart => exact ⟨0, by omega, rfl, by rw [show bitK (covK l C.testBit 0) 32 = 0 from bitK_zero fun j _ => rfl]; rfl, Below.refl _ _⟩
  case round =>
    obtain ⟨k, hk, rfl, rfl, hb⟩ := hrel
    have BW := Lib.hid hb
    clear hb
    by_cases hlt : k < l.length
    · obtain ⟨b, o, a, rfl, hd, c0, c1'⟩ := (HR.out.below BW.out (Nat.le_refl _)).pt k hlt
      have hoka := HO.out a (List.mem_of_getElem? hd.out)
      have HX := Lib.hid (fun w => HP.out a hoka w)
      have HQ := Lib.hid (fun w => HH.out k w (by omega))
      have hbk := bit32 (covK l C.testBit k)
      obtain ⟨W, hW, d0, d1, hs, hb0⟩ := one_pt wr (.int .i64 a.x) (.int .i64 a.y) 37
      have B0 := Lib.hid (BW.out.trans (hb0.mono BW.out.size))
      clear hb0 hs
      cases hq : C.testBit k
      · have HS := Lib.hid (cov_skip l C.testBit hq)
        rw [hq] at HQ
        clear hq
        generalize bitK (covK l C.testBit k) 32 = N at *
        go_wp2_with fail
        clear hW
        go_wp2_with fail
        refine (HQ.out W).mono ?_
        rintro e w' ⟨rfl, rfl⟩
        go_wp2_with fail
        go_roundw
        case rel => exact ⟨k + 1, by omega, by go_num, by rw [HS.out], B0.out⟩
        case measure => simp [intOf]; omega
      · have HS := Lib.hid (cov_or l C.testBit hd.out hq)
        rw [hq] at HQ
        clear hq
        generalize bitK (covK l C.testBit k) 32 = N at *
        generalize arcN a = M at *
        obtain ⟨x, y⟩ := a
        unfold Pt.v at HX
        simp only at c0 c1' HX hW d0 d1
        go_wp2_with fail
        clear hW
        go_wp2_with fail
        refine (HQ.out W).mono ?_
        rintro e w' ⟨rfl, rfl⟩
        go_wp2_with fail
        refine (HX.out W).mono ?_
        rintro e w2 ⟨rfl, hb⟩
        have B2 := Lib.hid (B0.out.trans (hb.mono B0.out.size))
        clear hb
        go_wp2_with fail
        go_roundw
        case rel => exact ⟨k + 1, by omega, by go_num, by rw [HS.out], B2.out⟩
        case measure => simp [intOf]; omega
    · have hks : k = l.length := by omega
      subst hks
      go_wp2_with fail
      go_ret
      exact ⟨rfl, BW.out⟩
theorem every_print {n : Nat} (h : n ≤ 10) : IntKind.u32.wrap ((2 : Int) ^ n % 4294967296 - 1) = ((2 ^ n - 1 : Nat) : Int) := by
  have : n = 0 ∨ n = 1 ∨ n = 2 ∨ n = 3 ∨ n = 4 ∨ n = 5 ∨ n = 6 ∨ n = 7 ∨ n = 8 ∨ n = 9 ∨ n = 10 := by omega
  rcases this with rfl | rfl | rfl | rfl | rfl | rfl | rfl | rfl | rfl | rfl | rfl <;> rfl
theorem everyPipe_any (A : Option Addr) (c n : Nat) (w : World) (h : n ≤ 10) :
    Calls Try.prog 18 #[.slice A n c] w fun e w' => e = .returned (.int .u32 (2 ^ n - 1 : Nat)) ∧ w = w' := by
  have he := every_print h
  go_enter Try.func18, Try.ntmps18
  go_wp2
  go_ret
  exact ⟨rfl, rfl⟩
def wkL (l : List Pt) (p : Nat) : List Int := listK (workB l p) l.length
theorem wkL_list {l : List Pt} (h : l.length ≤ 10) (p : Nat) : listB (workN l p).testBit = wkL l p := listB_bits _ (by omega)
def wkE (l : List Pt) (p : Int) : Int := if pipesE l = 0 then (if pt p then 0 else 1) else pipesE l
def wkV (l : List Pt) (p : Int) : List Int := if wkE l p = 0 then wkL l p.toNat else []
theorem wkE_zero {l : List Pt} {p : Int} (h : wkE l p = 0) : pipesE l = 0 ∧ pt p = true := by
  unfold wkE at h
  split at h
  · rename_i h1
    refine ⟨h1, ?_⟩
    split at h
    · assumption
    · cases h
  · contradiction
theorem workN_lt {l : List Pt} (h : l.length ≤ 10) (p : Nat) : workN l p < 4294967296 := by
  have := bitK_small (workB l p) h
  unfold workN
  omega
theorem andNot_all {x : Nat} (hx : x < 4294967296) : bits .andNot .u32 4294967295 (x : Int) = ((bitK (fun j => !x.testBit j) 32 : Nat) : Int) := by
  have h := u32_andNot_nat 4294967295 x (by decide) hx
  have e : ((4294967295 : Nat) : Int) = 4294967295 := rfl
  rw [e] at h
  rw [h]
  congr 1
  refine ext32 (Nat.lt_of_le_of_lt Nat.and_le_left (by decide)) (bit32 _) fun j hj => ?_
  rw [bitK_test _ _ _ hj, Nat.testBit_and, show (4294967295 - x) = 2 ^ 32 - (x + 1) by omega, Nat.testBit_two_pow_sub_succ hx, ← all32, bitK_test _ _ _ hj]
  simp [hj]
def leeB (l : List Pt) (j : Nat) : Bool := !covB l (fun _ => true) j
def leeN (l : List Pt) : Nat := bitK (leeB l) 32
def leeV (l : List Pt) : Int := if pipesE l = 0 then (leeN l : Nat) else 0
theorem every_bits {n i : Nat} (h : i < n) : (2 ^ n - 1).testBit i = true := by
  rw [Nat.testBit_two_pow_sub_one]
  simpa using h
theorem cov_every (l : List Pt) : covN l (2 ^ l.length - 1).testBit = covN l fun _ => true := covN_congr fun i hi => every_bits hi
theorem every_lt {n : Nat} (h : n ≤ 10) : 2 ^ n - 1 < 4294967296 := by
  have : 2 ^ n ≤ 2 ^ 10 := Nat.pow_le_pow_right (by omega) h
  have e : (2 : Nat) ^ 10 = 1024 := by decide
  omega
theorem Lee_any (A : Option Addr) (c : Nat) (l : List Pt) (w : World) (hr : Rd w w.heap.size A (l.flatMap Pt.cells)) (hn : l.length ≤ 9223372036854775807) :
    Calls Try.prog 6 #[.slice A l.length c] w fun e w' => e = .returned (.tuple #[.int .i64 (leeV l), .int .i64 (pipesE l)]) ∧ Below w.heap.size w w' := by
  have HR := Lib.hid hr
  have HV := Lib.hid (fun w h => ValidatePipes_any A c l w h hn)
  clear hr
  unfold leeV
  by_cases hE : pipesE l = 0
  · rw [if_pos hE, hE]
    obtain ⟨h10, _⟩ := pipesE_zero hE
    have HC := Lib.hid (fun w h => covered_any A c l (2 ^ l.length - 1) w h hE (every_lt h10))
    have HP := Lib.hid (fun w => everyPipe_any A c l.length w h10)
    rw [cov_every] at HC
    have hl := covN_lt l (fun _ => true)
    have han := andNot_all hl
    have hlee : leeN l = bitK (fun j => !(covN l fun _ => true).testBit j) 32 := bitK_congr fun j hj => by
      unfold leeB covN
      rw [bitK_test _ _ _ hj]
    rw [← hlee] at han
    have hll : leeN l < 4294967296 := bit32 _
    rw [hE] at HV
    clear hE hlee
    generalize leeN l = E at *
    generalize covN l (fun _ => true) = C at *
    generalize 2 ^ l.length - 1 = V at *
    have hw : IntKind.i64.wrap (E : Int) = (E : Int) := by rw [IntKind.wrap_i64]; omega
    go_enter Try.func6, Try.ntmps6
    go_wp2_with fail
    refine (HV.out w HR.out).mono ?_
    rintro e w1 ⟨rfl, hb⟩
    have B1 := Lib.hid hb
    have R1 := Lib.hid ((HR.out.below hb (Nat.le_refl _)).more hb.size)
    clear hb
    go_wp2_with fail
    refine (HP.out w1).mono ?_
    rintro e w' ⟨rfl, rfl⟩
    go_wp2_with fail
    refine (HC.out w1 R1.out).mono ?_
    rintro e w2 ⟨rfl, hb⟩
    have B2 := Lib.hid (B1.out.trans (hb.mono B1.out.size))
    clear hb
    go_wp2_with fail
    go_ret2
    exact ⟨rfl, B2.out⟩
  · rw [if_neg hE]
    generalize pipesE l = E at *
    have hb1 : (E == 0) = false := by simpa using hE
    have hb2 : (E != 0) = true := by simpa using hE
    clear hE
    go_enter Try.func6, Try.ntmps6
    go_wp2_with fail
    refine (HV.out w HR.out).mono ?_
    rintro e w1 ⟨rfl, hb⟩
    have B1 := Lib.hid hb
    clear hb
    go_wp2_with fail
    go_ret2
    exact ⟨rfl, B1.out⟩

/-! ### The document's side -/
theorem wk_len (l : List Pt) (p : Nat) : ((wkL l p).length == 0) = leeB l p := by
  unfold wkL leeB covB
  have key : ∀ k, ((listK (workB l p) k).length == 0) = !covK l (fun _ => true) k p := by
    intro k
    induction k with
    | zero => rfl
    | succ k ih =>
      rw [covK_next]
      cases hq : workB l p k
      · rw [listK_no hq, ih]
        simp
      · rw [listK_yes hq]
        simp
  exact key _
end Go.Proofs.Ytfokmgogbjifbaa

/-
  Which of two sets is smaller: the walks of cmp.Compare, slices.Compare, cmp.Or, compareFew; of first of the reference. No condition.
-/
import Derived.Test.YtfokmgogbjifbaaWi17
namespace Go.Proofs.Ytfokmgogbjifbaa
open Go.RowKit
set_option linter.unusedVariables false

def cmpI (a b : Int) : Int := if a < b then -1 else if b < a then 1 else 0
theorem cmpI_lt {a b : Int} (h : a < b) : cmpI a b = -1 := if_pos h
theorem cmpI_gt {a b : Int} (h : b < a) : cmpI a b = 1 := by unfold cmpI; rw [if_neg (by omega), if_pos h]
theorem cmpI_eq (a : Int) : cmpI a a = 0 := by unfold cmpI; rw [if_neg (by omega), if_neg (by omega)]
def lexC : List Int → List Int → Int
  | [], [] => 0
  | [], _ :: _ => -1
  | _ :: _, [] => 1
  | x :: xs, y :: ys => if cmpI x y = 0 then lexC xs ys else cmpI x y
theorem lexC_cons_eq (x : Int) (xs ys : List Int) : lexC (x :: xs) (x :: ys) = lexC xs ys := by rw [lexC, cmpI_eq, if_pos rfl]
theorem lexC_cons_lt {x y : Int} (h : x < y) (xs ys : List Int) : lexC (x :: xs) (y :: ys) = -1 := by rw [lexC, cmpI_lt h]; rfl
theorem lexC_cons_gt {x y : Int} (h : y < x) (xs ys : List Int) : lexC (x :: xs) (y :: ys) = 1 := by rw [lexC, cmpI_gt h]; rfl
theorem lexC_swap : ∀ A B : List Int, lexC B A = -lexC A B
  | [], [] => rfl
  | [], _ :: _ => rfl
  | _ :: _, [] => rfl
  | x :: xs, y :: ys => by
    rcases Int.lt_trichotomy x y with h | h | h
    · rw [lexC_cons_lt h, lexC_cons_gt h]; rfl
    · subst h
      rw [lexC_cons_eq, lexC_cons_eq]
      exact lexC_swap xs ys
    · rw [lexC_cons_gt h, lexC_cons_lt h]
theorem lexC_zero : ∀ {A B : List Int}, lexC A B = 0 → A = B
  | [], [], _ => rfl
  | [], _ :: _, h => by cases h
  | _ :: _, [], h => by cases h
  | x :: xs, y :: ys, h => by
    rcases Int.lt_trichotomy x y with h1 | h1 | h1
    · rw [lexC_cons_lt h1] at h; cases h
    · subst h1
      rw [lexC_cons_eq] at h
      rw [lexC_zero h]
    · rw [lexC_cons_gt h1] at h; cases h
theorem lexC_trans : ∀ {A B C : List Int}, lexC A B < 0 → lexC B C < 0 → lexC A C < 0
  | [], [], _, h, _ => by cases h
  | [], _ :: _, [], _, h => by simp [lexC] at h
  | [], _ :: _, _ :: _, _, _ => by simp [lexC]
  | _ :: _, [], _, h, _ => by simp [lexC] at h
  | _ :: _, _ :: _, [], _, h => by simp [lexC] at h
  | x :: xs, y :: ys, z :: zs, h1, h2 => by
    rcases Int.lt_trichotomy x y with a | a | a
    · rcases Int.lt_trichotomy y z with b | b | b
      · rw [lexC_cons_lt (by omega)]; decide
      · subst b; rw [lexC_cons_lt a]; decide
      · rw [lexC_cons_gt b] at h2; omega
    · subst a
      rcases Int.lt_trichotomy x z with b | b | b
      · rw [lexC_cons_lt b]; decide
      · subst b
        rw [lexC_cons_eq] at h1 h2 ⊢
        exact lexC_trans h1 h2
      · rw [lexC_cons_gt b] at h2; omega
    · rw [lexC_cons_gt a] at h1; omega
def cfI (A B : List Int) : Int := if cmpI A.length B.length = 0 then lexC A B else cmpI A.length B.length
theorem cfI_same {A B : List Int} (h : A.length = B.length) : cfI A B = lexC A B := by unfold cfI; rw [h, cmpI_eq, if_pos rfl]
theorem cfI_lt {A B : List Int} (h : A.length < B.length) : cfI A B = -1 := by unfold cfI; rw [cmpI_lt (by omega)]; rfl
theorem cfI_gt {A B : List Int} (h : B.length < A.length) : cfI A B = 1 := by unfold cfI; rw [cmpI_gt (by omega)]; rfl
theorem cfI_trans {A B C : List Int} (h1 : cfI A B < 0) (h2 : cfI B C < 0) : cfI A C < 0 := by
  rcases Nat.lt_trichotomy A.length B.length with a | a | a
  · rcases Nat.lt_trichotomy B.length C.length with b | b | b
    · rw [cfI_lt (by omega)]; decide
    · rw [cfI_lt (by omega)]; decide
    · rw [cfI_gt b] at h2; omega
  · rcases Nat.lt_trichotomy B.length C.length with b | b | b
    · rw [cfI_lt (by omega)]; decide
    · rw [cfI_same a] at h1
      rw [cfI_same b] at h2
      rw [cfI_same (by omega)]
      exact lexC_trans h1 h2
    · rw [cfI_gt b] at h2; omega
  · rw [cfI_gt a] at h1; omega
theorem cfI_tri {A B : List Int} (h1 : ¬ cfI A B < 0) (h2 : ¬ cfI B A < 0) : A = B := by
  rcases Nat.lt_trichotomy A.length B.length with a | a | a
  · rw [cfI_lt a] at h1; omega
  · rw [cfI_same a] at h1
    rw [cfI_same a.symm, lexC_swap] at h2
    exact lexC_zero (by omega)
  · rw [cfI_lt a] at h2; omega
theorem isNaN_any (n : Int) (w : World) : Calls Try.prog 37 #[.int .i64 n] w fun e w' => e = .returned (.bool false) ∧ w = w' := by
  go_enter Try.func37, Try.ntmps37
  go_wp2
  go_ret
  exact ⟨by simp, rfl⟩
theorem Compare_any (a b : Int) (w : World) : Calls Try.prog 31 #[.int .i64 a, .int .i64 b] w fun e w' => e = .returned (.int .i64 (cmpI a b)) ∧ w = w' := by
  rcases Int.lt_trichotomy a b with h | h | h
  · have E := Lib.hid (cmpI_lt h)
    go_enter Try.func31, Try.ntmps31
    go_wp2_with fail
    refine (isNaN_any a w).mono ?_
    rintro e w' ⟨rfl, rfl⟩
    go_wp2_with fail
    refine (isNaN_any b w).mono ?_
    rintro e w' ⟨rfl, rfl⟩
    go_wp2_with fail
    go_ret
    exact ⟨by rw [E.out]; rfl, rfl⟩
  · subst h
    have E := Lib.hid (cmpI_eq a)
    go_enter Try.func31, Try.ntmps31
    go_wp2_with fail
    refine (isNaN_any a w).mono ?_
    rintro e w' ⟨rfl, rfl⟩
    go_wp2_with fail
    refine (isNaN_any a w).mono ?_
    rintro e w' ⟨rfl, rfl⟩
    go_wp2_with fail
    go_ret
    exact ⟨by rw [E.out]; rfl, rfl⟩
  · have h2 : ¬ a < b := by omega
    have E := Lib.hid (cmpI_gt h)
    go_enter Try.func31, Try.ntmps31
    go_wp2_with fail
    refine (isNaN_any a w).mono ?_
    rintro e w' ⟨rfl, rfl⟩
    go_wp2_with fail
    refine (isNaN_any b w).mono ?_
    rintro e w' ⟨rfl, rfl⟩
    go_wp2_with fail
    go_ret
    exact ⟨by rw [E.out]; rfl, rfl⟩
theorem drop_at {L : List Int} {k : Nat} {d : Int} (h : L[k]? = some d) : L.drop k = d :: L.drop (k + 1) := by
  obtain ⟨hk, he⟩ := List.getElem?_eq_some_iff.1 h
  rw [List.drop_eq_getElem_cons hk, he]
set_option maxRecDepth 4000 in
theorem sCompare_any (A1 A2 : Option Addr) (c1 c2 : Nat) (L1 L2 : List Int) (w : World) (hr1 : Rd w w.heap.size A1 (ints L1)) (hr2 : Rd w w.heap.size A2 (ints L2)) (hn1 : L1.length ≤ 9223372036854775807) (hn2 : L2.length ≤ 9223372036854775807) :
    Calls Try.prog 32 #[.slice A1 L1.length c1, .slice A2 L2.length c2] w fun e w' => e = .returned (.int .i64 (lexC L1 L2)) ∧ w = w' := by
  have R1 := Lib.hid hr1
  have R2 := Lib.hid hr2
  clear hr1 hr2
  go_enter Try.func32, Try.ntmps32
  go_wp2_with fail
  go_loop [11] (fun i => ∃ k : Nat, k ≤ L1.length ∧ k ≤ L2.length ∧ i = .int .i64 k ∧ lexC L1 L2 = lexC (L1.drop k) (L2.drop k)) (fun i => L1.length - (intOf i).toNat)
  case atStart => exact ⟨0, by omega, by omega, rfl, rfl⟩
  case round =>
    obtain ⟨k, hk1, hk2, rfl, hlex⟩ := hrel
    have HL := Lib.hid hlex
    clear hlex
    by_cases h1 : k < L1.length
    · obtain ⟨b, o, x, rfl, hx, c0⟩ := R1.out.int k h1
      have hd1 := drop_at hx.out
      by_cases h2 : k < L2.length
      · obtain ⟨b', o', y, rfl, hy, d0⟩ := R2.out.int k h2
        have hd2 := drop_at hy.out
        have HL2 := HL.out
        rw [hd1, hd2] at HL2
        have h2' : ¬ L2.length ≤ k := by omega
        rcases Int.lt_trichotomy x y with h | h | h
        · rw [lexC_cons_lt h] at HL2
          have HE := Lib.hid HL2
          have HC := Lib.hid (fun w => Compare_any x y w)
          rw [cmpI_lt h] at HC
          clear hd1 hd2 HL2 h
          go_wp2_with fail
          refine (HC.out w).mono ?_
          rintro e w' ⟨rfl, rfl⟩
          go_wp2_with fail
          go_ret
          exact ⟨by rw [HE.out]; rfl, rfl⟩
        · subst h
          rw [lexC_cons_eq] at HL2
          have HE := Lib.hid HL2
          have HC := Lib.hid (fun w => Compare_any x x w)
          rw [cmpI_eq] at HC
          clear hd1 hd2 HL2
          go_wp2_with fail
          refine (HC.out w).mono ?_
          rintro e w' ⟨rfl, rfl⟩
          go_wp2_with fail
          go_round
          case rel => exact ⟨k + 1, by omega, by omega, by go_num, HE.out⟩
          case measure => simp [intOf]; omega
        · rw [lexC_cons_gt h] at HL2
          have HE := Lib.hid HL2
          have HC := Lib.hid (fun w => Compare_any x y w)
          rw [cmpI_gt h] at HC
          clear hd1 hd2 HL2 h
          go_wp2_with fail
          refine (HC.out w).mono ?_
          rintro e w' ⟨rfl, rfl⟩
          go_wp2_with fail
          go_ret
          exact ⟨by rw [HE.out]; rfl, rfl⟩
      · have HL2 := HL.out
        rw [hd1, show L2.drop k = [] from List.drop_eq_nil_of_le (by omega)] at HL2
        have HE := Lib.hid (show lexC L1 L2 = 1 from HL2)
        clear hd1 HL2
        have h2' : L2.length ≤ k := by omega
        go_wp2_with fail
        go_ret
        exact ⟨by rw [HE.out]; rfl, rfl⟩
    · have hk : k = L1.length := by omega
      have HL2 := HL.out
      rw [hk, show L1.drop L1.length = [] from List.drop_eq_nil_of_le (Nat.le_refl _)] at HL2
      by_cases h3 : L1.length < L2.length
      · have hd : L2.drop L1.length = L2[L1.length] :: L2.drop (L1.length + 1) := List.drop_eq_getElem_cons h3
        rw [hd] at HL2
        have HE := Lib.hid (show lexC L1 L2 = -1 from HL2)
        have HK := Lib.hid hk
        clear hd HL2 hk
        go_wp2_with fail
        go_ret
        exact ⟨by rw [HE.out]; rfl, rfl⟩
      · rw [show L2.drop L1.length = [] from List.drop_eq_nil_of_le (by omega)] at HL2
        have HE := Lib.hid (show lexC L1 L2 = 0 from HL2)
        have HK := Lib.hid hk
        clear HL2 hk
        go_wp2_with fail
        go_ret
        exact ⟨by rw [HE.out]; rfl, rfl⟩
def orV (a b : Int) : Int := if a = 0 then b else a
set_option maxRecDepth 4000 in
theorem Or_any (g : Nat) (a b : Int) (w : World) (c0 : w.cell? ⟨g, 0, none⟩ = some (.int .i64 a)) (c1 : w.cell? ⟨g, 1, none⟩ = some (.int .i64 b)) :
    Calls Try.prog 30 #[.slice (some ⟨g, 0, none⟩) 2 2] w fun e w' => e = .returned (.int .i64 (orV a b)) ∧ w = w' := by
  go_enter Try.func30, Try.ntmps30
  go_wp2_with fail
  go_loop [8] (fun i => ∃ k : Nat, k ≤ 2 ∧ i = .int .i64 k ∧ (1 ≤ k → a = 0) ∧ (2 ≤ k → b = 0)) (fun i => 2 - (intOf i).toNat)
  case atStart => exact ⟨0, by omega, rfl, fun h => by omega, fun h => by omega⟩
  case round =>
    obtain ⟨k, hk, rfl, ha, hb⟩ := hrel
    have HA := Lib.hid ha
    have HB := Lib.hid hb
    clear ha hb
    have hk3 : k = 0 ∨ k = 1 ∨ k = 2 := by omega
    rcases hk3 with rfl | rfl | rfl
    · by_cases h : a = 0
      · have HZ := Lib.hid h
        have hab : (a == 0) = true := by simpa using h
        have hab2 : (a != 0) = false := by simpa using h
        clear h
        go_wp2_with fail
        go_round
        case rel => exact ⟨1, by omega, by go_num, fun _ => HZ.out, fun h => by omega⟩
        case measure => simp [intOf]
      · have HZ := Lib.hid (show orV a b = a from if_neg h)
        have hab : (a == 0) = false := by simpa using h
        have hab2 : (a != 0) = true := by simpa using h
        clear h
        go_wp2_with fail
        go_ret
        exact ⟨by rw [HZ.out]; rfl, rfl⟩
    · have h := HA.out (Nat.le_refl _)
      have HZ := Lib.hid (show orV a b = b from if_pos h)
      by_cases h2 : b = 0
      · have HY := Lib.hid h2
        have hab : (b == 0) = true := by simpa using h2
        have hab2 : (b != 0) = false := by simpa using h2
        have HA2 := Lib.hid h
        clear h h2
        go_wp2_with fail
        go_round
        case rel => exact ⟨2, by omega, by go_num, fun _ => HA2.out, fun _ => HY.out⟩
        case measure => simp [intOf]
      · have hab : (b == 0) = false := by simpa using h2
        have hab2 : (b != 0) = true := by simpa using h2
        clear h h2
        go_wp2_with fail
        go_ret
        exact ⟨by rw [HZ.out]; rfl, rfl⟩
    · have h := HA.out (by omega)
      have h2 := HB.out (Nat.le_refl _)
      have HZ := Lib.hid (show orV a b = 0 from (if_pos h).trans h2)
      clear h h2
      go_wp2_with fail
      go_ret
      exact ⟨by rw [HZ.out]; rfl, rfl⟩
theorem orV_cf (A B : List Int) : orV (cmpI A.length B.length) (lexC A B) = cfI A B := rfl
set_option maxHeartbeats 400000 in
theorem compareFew_any (x y : Nat) (w : World) (hx : x < 4294967296) (hy : y < 4294967296) :
    Calls Try.prog 19 #[.int .u32 x, .int .u32 y] w fun e w' => e = .returned (.int .i64 (cfI (listB x.testBit) (listB y.testBit))) ∧ Below w.heap.size w w' := by
  have C1 := Lib.hid (fun w => count_any x w hx)
  have C2 := Lib.hid (fun w => count_any y w hy)
  have L1 := Lib.hid (fun w => list_any x w hx)
  have L2 := Lib.hid (fun w => list_any y w hy)
  have h1 := listB_le x.testBit
  have h2 := listB_le y.testBit
  have HCf := Lib.hid (orV_cf (listB x.testBit) (listB y.testBit))
  generalize listB x.testBit = A at *
  generalize listB y.testBit = B at *
  rw [← HCf.out]
  have HS := Lib.hid (fun A1 A2 c1 c2 w r1 r2 => sCompare_any A1 A2 c1 c2 A B w r1 r2 (by omega) (by omega))
  generalize lexC A B = lx at *
  unfold hasV at L1 L2
  go_enter Try.func19, Try.ntmps19
  go_wp2_with fail
  refine (C1.out w).mono ?_
  rintro e w' ⟨rfl, m1, rfl⟩
  go_wp2_with fail
  refine (C2.out (w.drewN m1)).mono ?_
  rintro e w' ⟨rfl, m2, rfl⟩
  go_wp2_with fail
  refine (Compare_any _ _ _).mono ?_
  rintro e w' ⟨rfl, rfl⟩
  go_wp2_with fail
  refine (L1.out _).mono ?_
  rintro e w3 ⟨A3, c3, rfl, hc3, hr3, hb3⟩
  have R3 := Lib.hid hr3
  have B3 := Lib.hid ((below_drewN (Below.refl w.heap.size w) (m1 + m2)).trans hb3)
  clear hr3 hb3
  go_wp2_with fail
  refine (L2.out _).mono ?_
  rintro e w4 ⟨A4, c4, rfl, hc4, hr4, hb4⟩
  have R4 := Lib.hid hr4
  have R34 := Lib.hid ((R3.out.below hb4 (Nat.le_refl _)).more hb4.size)
  have B4 := Lib.hid (B3.out.trans (hb4.mono B3.out.size))
  clear hr4 hb4
  go_wp2_with fail
  refine (HS.out A3 A4 c3 c4 w4 R34.out R4.out).mono ?_
  rintro e w' ⟨rfl, rfl⟩
  go_wp2_with fail
  refine (Or_any w4.heap.size (cmpI A.length B.length) lx _ ?_ ?_).mono ?_
  · rw [blk_cell (heap_alloc_new w4 _)]; rfl
  · rw [blk_cell (heap_alloc_new w4 _)]; rfl
  rintro e w' ⟨rfl, rfl⟩
  go_wp2_with fail
  go_ret
  exact ⟨rfl, B4.out.alloc B4.out.size _⟩
end Go.Proofs.Ytfokmgogbjifbaa

/-
  The walks of covered, everyPipe, Workable, Lee of package wind; workable, Workable, Lee of the reference; SameInts. No condition.
-/
import Derived.Test.YtnnlbllkckakbaaDoorWi10
namespace Go.Proofs.YtnnlbllkckakbaaDoor
open Go.RowKit
set_option linter.unusedVariables false

theorem SameInts_same (A1 A2 : Option Addr) (c1 c2 : Nat) (l : List Int) (n1 n2 : Nat) (w : World) (hl1 : l.length = n1) (hl2 : l.length = n2) (hr1 : Rd w w.heap.size A1 (ints l)) (hr2 : Rd w w.heap.size A2 (ints l)) (hn : n1 ≤ 1000) :
    Calls Tryd.prog 42 #[.slice A1 n1 c1, .slice A2 n2 c2] w fun e w' => e = .returned (.bool true) ∧ ∃ n, w' = w.drewN n := by
  have key : Calls Tryd.prog 78 #[.slice A1 n1 c1, .slice A2 n2 c2] w fun e w' => e = .returned (.bool true) ∧ ∃ n, w' = w.drewN n := by
    subst hl1
    subst hl2
    have R1 := Lib.hid hr1
    have R2 := Lib.hid hr2
    clear hr1 hr2
    go_enter Tryd.func78, Tryd.ntmps78
    go_wp2_with fail
    go_loopw [5] (fun i wr => ∃ k : Nat, k ≤ l.length ∧ i = .int .i64 k ∧ ∃ m, wr = w.drewN m) (fun i _ => l.length - (intOf i).toNat)
    case atStart => exact ⟨0, by omega, rfl, 0, rfl⟩
    case round =>
      obtain ⟨k, hk, rfl, m, rfl⟩ := hrel
      by_cases hlt : k < l.length
      · obtain ⟨b, o, d, rfl, hd, hc⟩ := R1.out.int k hlt
        obtain ⟨b', o', d', rfl, hd', hc'⟩ := R2.out.int k hlt
        have hdd : d' = d := by
          have := hd.out
          rw [hd'.out] at this
          exact Option.some.inj this
        subst hdd
        go_wp2_with fail
        go_quiet (fail)
        go_wp2
        go_roundw
        case rel => exact ⟨k + 1, by omega, by go_num, _, rfl⟩
        case measure => simp [intOf]; omega
      · have hks : k = l.length := by omega
        have HK := Lib.hid hks
        clear hks
        go_wp2_with fail
        go_ret
        exact ⟨rfl, _, rfl⟩
  have K := Lib.hid key
  clear key hr1 hr2 hl1 hl2
  go_enter Tryd.func42, Tryd.ntmps42
  go_wp2_with fail
  refine K.out.mono ?_
  rintro e w' ⟨rfl, m, rfl⟩
  go_wp2_with fail
  go_ret
  exact ⟨rfl, m, rfl⟩

/-- Some of the first k pipes, as f chooses, have the point j. -/
def covK (l : List Pt) (f : Nat → Bool) (k j : Nat) : Bool := (List.range k).any fun i => f i && workB l j i
def covB (l : List Pt) (f : Nat → Bool) (j : Nat) : Bool := covK l f l.length j
def covN (l : List Pt) (f : Nat → Bool) : Nat := bitK (covB l f) 32
theorem covK_next (l : List Pt) (f : Nat → Bool) (k j : Nat) : covK l f (k + 1) j = (covK l f k j || (f k && workB l j k)) := by
  unfold covK
  rw [List.range_succ, List.any_append]
  simp
theorem covB_congr {l : List Pt} {f g : Nat → Bool} (h : ∀ i, i < l.length → f i = g i) (j : Nat) : covB l f j = covB l g j := by
  unfold covB covK
  rw [Bool.eq_iff_iff, List.any_eq_true, List.any_eq_true]
  constructor
  · rintro ⟨i, hi, h1⟩
    exact ⟨i, hi, by rw [← h i (List.mem_range.1 hi)]; exact h1⟩
  · rintro ⟨i, hi, h1⟩
    exact ⟨i, hi, by rw [h i (List.mem_range.1 hi)]; exact h1⟩
theorem covN_congr {l : List Pt} {f g : Nat → Bool} (h : ∀ i, i < l.length → f i = g i) : covN l f = covN l g := bitK_congr fun j _ => covB_congr h j
theorem covN_lt (l : List Pt) (f : Nat → Bool) : covN l f < 4294967296 := bit32 _
theorem cov_or (l : List Pt) (f : Nat → Bool) {k : Nat} {a : Pt} (ha : l[k]? = some a) (hf : f k = true) : bits .or .u32 ((bitK (covK l f k) 32 : Nat) : Int) ((arcN a : Nat) : Int) = ((bitK (covK l f (k + 1)) 32 : Nat) : Int) := by
  rw [u32_or_nat _ _ (bit32 _) (arcN_lt a), arcN_is, bitK_or]
  have e : bitK (fun j => covK l f k j || hasN a j) 32 = bitK (covK l f (k + 1)) 32 := bitK_congr fun j _ => by rw [covK_next, hf, workB_at ha]; rfl
  rw [e]
theorem cov_skip (l : List Pt) (f : Nat → Bool) {k : Nat} (hf : f k = false) : bitK (covK l f (k + 1)) 32 = bitK (covK l f k) 32 := bitK_congr fun j _ => by rw [covK_next, hf]; simp
set_option maxRecDepth 4000 in
theorem covered_any (A : Option Addr) (c : Nat) (l : List Pt) (C : Nat) (w : World) (hr : Rd w w.heap.size A (l.flatMap Pt.cells)) (hn : pipesE l = 0) (hC : C < 4294967296) :
    Calls Tryd.prog 76 #[.slice A l.length c, .int .u32 C] w fun e w' => e = .returned (.int .u32 (covN l C.testBit : Nat)) ∧ Below w.heap.size w w' := by
  have HR := Lib.hid hr
  obtain ⟨h10, hok⟩ := pipesE_zero hn
  have HO := Lib.hid hok
  have HP := Lib.hid (fun (a : Pt) (h : okA a = true) w => pointsOf_any a w (arcE_yes h))
  have HH := Lib.hid (fun n w hn => has_any C n w hC hn)
  clear hr hok hn
  go_enter Tryd.func76, Tryd.ntmps76
  go_wp2
  go_loopw [5, 10] (fun v i wr => ∃ k : Nat, k ≤ l.length ∧ i = .int .i64 k ∧ v = .int .u32 (bitK (covK l C.testBit k) 32 : Nat) ∧ Below w.heap.size w wr) (fun _ i _ => l.length - (intOf i).toNat)
  case atStart => exact ⟨0, by omega, rfl, by rw [show bitK (covK l C.testBit 0) 32 = 0 from bitK_zero fun j _ => rfl]; rfl, Below.refl _ _⟩
  case round =>
    obtain ⟨k, hk, rfl, rfl, hb⟩ := hrel
    have BW := Lib.hid hb
    clear hb
    by_cases hlt : k < l.length
    · obtain ⟨b, o, a, rfl, hd, c0, c1'⟩ := (HR.out.below BW.out (Nat.le_refl _)).pt k hlt
      have hoka := HO.out a (List.mem_of_getElem? hd.out)
      have HX := Lib.hid (fun w => HP.out a hoka w)
      have HQ := Lib.hid (fun w => HH.out k w (by omega))
      have hbk := bit32 (covK l C.testBit k)
      obtain ⟨W, hW, d0, d1, hs, hb0⟩ := one_pt wr (.int .i64 a.x) (.int .i64 a.y) 23
      have B0 := Lib.hid (BW.out.trans (hb0.mono BW.out.size))
      clear hb0 hs
      cases hq : C.testBit k
      · have HS := Lib.hid (cov_skip l C.testBit hq)
        rw [hq] at HQ
        clear hq
        generalize bitK (covK l C.testBit k) 32 = N at *
        go_wp2_with fail
        clear hW
        go_wp2_with fail
        refine (HQ.out W).mono ?_
        rintro e w' ⟨rfl, rfl⟩
        go_wp2_with fail
        go_roundw
        case rel => exact ⟨k + 1, by omega, by go_num, by rw [HS.out], B0.out⟩
        case measure => simp [intOf]; omega
      · have HS := Lib.hid (cov_or l C.testBit hd.out hq)
        rw [hq] at HQ
        clear hq
        generalize bitK (covK l C.testBit k) 32 = N at *
        generalize arcN a = M at *
        obtain ⟨x, y⟩ := a
        unfold Pt.v at HX
        simp only at c0 c1' HX hW d0 d1
        go_wp2_with fail
        clear hW
        go_wp2_with fail
        refine (HQ.out W).mono ?_
        rintro e w' ⟨rfl, rfl⟩
        go_wp2_with fail
        refine (HX.out W).mono ?_
        rintro e w2 ⟨rfl, hb⟩
        have B2 := Lib.hid (B0.out.trans (hb.mono B0.out.size))
        clear hb
        go_wp2_with fail
        go_roundw
        case rel => exact ⟨k + 1, by omega, by go_num, by rw [HS.out], B2.out⟩
        case measure => simp [intOf]; omega
    · have hks : k = l.length := by omega
      subst hks
      go_wp2_with fail
      go_ret
      exact ⟨rfl, BW.out⟩
theorem every_print {n : Nat} (h : n ≤ 10) : IntKind.u32.wrap ((2 : Int) ^ n % 4294967296 - 1) = ((2 ^ n - 1 : Nat) : Int) := by
  have : n = 0 ∨ n = 1 ∨ n = 2 ∨ n = 3 ∨ n = 4 ∨ n = 5 ∨ n = 6 ∨ n = 7 ∨ n = 8 ∨ n = 9 ∨ n = 10 := by omega
  rcases this with rfl | rfl | rfl | rfl | rfl | rfl | rfl | rfl | rfl | rfl | rfl <;> rfl
theorem everyPipe_any (A : Option Addr) (c n : Nat) (w : World) (h : n ≤ 10) :
    Calls Tryd.prog 77 #[.slice A n c] w fun e w' => e = .returned (.int .u32 (2 ^ n - 1 : Nat)) ∧ w = w' := by
  have he := every_print h
  go_enter Tryd.func77, Tryd.ntmps77
  go_wp2
  go_ret
  exact ⟨rfl, rfl⟩
def wkL (l : List Pt) (p : Nat) : List Int := listK (workB l p) l.length
theorem wkL_list {l : List Pt} (h : l.length ≤ 10) (p : Nat) : listB (workN l p).testBit = wkL l p := listB_bits _ (by omega)
def wkE (l : List Pt) (p : Int) : Int := if pipesE l = 0 then (if pt p then 0 else 1) else pipesE l
def wkV (l : List Pt) (p : Int) : List Int := if wkE l p = 0 then wkL l p.toNat else []
theorem wkE_zero {l : List Pt} {p : Int} (h : wkE l p = 0) : pipesE l = 0 ∧ pt p = true := by
  unfold wkE at h
  split at h
  · rename_i h1
    refine ⟨h1, ?_⟩
    split at h
    · assumption
    · cases h
  · contradiction
theorem workN_lt {l : List Pt} (h : l.length ≤ 10) (p : Nat) : workN l p < 4294967296 := by
  have := bitK_small (workB l p) h
  unfold workN
  omega
theorem Workable_any (A : Option Addr) (c : Nat) (l : List Pt) (p : Int) (w : World) (hr : Rd w w.heap.size A (l.flatMap Pt.cells)) (hn : l.length ≤ 9223372036854775807) :
    Calls Tryd.prog 36 #[.slice A l.length c, .int .i64 p] w (MadeIE w (wkV l p) (wkE l p)) := by
  have HR := Lib.hid hr
  have HV := Lib.hid (fun w h => ValidatePipes_any A c l w h hn)
  have HX := Lib.hid (fun w => isPoint_any p w)
  clear hr
  by_cases hE : pipesE l = 0
  · have hW := fun p w h (g : p < 32) => workable_any A c l p w h hE g
    obtain ⟨h10, _⟩ := pipesE_zero hE
    rw [hE] at HV
    by_cases hp : pt p = true
    · have e1 : wkE l p = 0 := by unfold wkE; rw [if_pos hE, if_pos hp]
      have e2 : wkV l p = wkL l p.toNat := if_pos e1
      rw [hp] at HX
      rw [pt_iff] at hp
      obtain ⟨q, rfl⟩ := Int.eq_ofNat_of_zero_le hp.1
      have HW := Lib.hid (fun w h => hW q w h (by omega))
      have HL := Lib.hid (fun w => list_any (workN l q) w (workN_lt h10 q))
      rw [wkL_list h10] at HL
      rw [Int.toNat_natCast] at e2
      rw [e1, e2]
      clear hE hp e1 e2 hW
      generalize wkL l q = L at *
      generalize workN l q = M at *
      unfold hasV at HL
      go_enter Tryd.func36, Tryd.ntmps36
      go_wp2_with fail
      refine (HV.out w HR.out).mono ?_
      rintro e w1 ⟨rfl, hb⟩
      have B1 := Lib.hid hb
      have R1 := Lib.hid ((HR.out.below hb (Nat.le_refl _)).more hb.size)
      clear hb
      go_wp2_with fail
      refine (HX.out w1).mono ?_
      rintro e w' ⟨rfl, rfl⟩
      go_wp2_with fail
      refine (HW.out w1 R1.out).mono ?_
      rintro e w2 ⟨rfl, hb⟩
      have B2 := Lib.hid (B1.out.trans (hb.mono B1.out.size))
      clear hb
      go_wp2_with fail
      refine (HL.out w2).mono ?_
      rintro e w3 ⟨A3, c3, rfl, hc3, hr3, hb3⟩
      go_wp2_with fail
      go_ret2
      exact ⟨A3, c3, rfl, hc3, hr3, B2.out.trans (hb3.mono B2.out.size)⟩
    · have e1 : wkE l p = 1 := by unfold wkE; rw [if_pos hE, if_neg hp]
      have e2 : wkV l p = [] := by unfold wkV; rw [e1]; rfl
      rw [Bool.not_eq_true] at hp
      rw [hp] at HX
      rw [e1, e2]
      clear hE hp e1 e2 hW
      go_enter Tryd.func36, Tryd.ntmps36
      go_wp2_with fail
      refine (HV.out w HR.out).mono ?_
      rintro e w1 ⟨rfl, hb⟩
      have B1 := Lib.hid hb
      clear hb
      go_wp2_with fail
      refine (HX.out w1).mono ?_
      rintro e w' ⟨rfl, rfl⟩
      go_wp2_with fail
      go_ret2
      exact ⟨none, 0, rfl, by decide, .inl rfl, B1.out⟩
  · have e1 : wkE l p = pipesE l := if_neg hE
    have e2 : wkV l p = [] := by unfold wkV; rw [e1, if_neg hE]
    rw [e1, e2]
    generalize pipesE l = E at *
    have hb1 : (E == 0) = false := by simpa using hE
    have hb2 : (E != 0) = true := by simpa using hE
    clear hE e1 e2
    go_enter Tryd.func36, Tryd.ntmps36
    go_wp2_with fail
    refine (HV.out w HR.out).mono ?_
    rintro e w1 ⟨rfl, hb⟩
    have B1 := Lib.hid hb
    clear hb
    go_wp2_with fail
    go_ret2
    exact ⟨none, 0, rfl, by decide, .inl rfl, B1.out⟩
theorem andNot_all {x : Nat} (hx : x < 4294967296) : bits .andNot .u32 4294967295 (x : Int) = ((bitK (fun j => !x.testBit j) 32 : Nat) : Int) := by
  have h := u32_andNot_nat 4294967295 x (by decide) hx
  have e : ((4294967295 : Nat) : Int) = 4294967295 := rfl
  rw [e] at h
  rw [h]
  congr 1
  refine ext32 (Nat.lt_of_le_of_lt Nat.and_le_left (by decide)) (bit32 _) fun j hj => ?_
  rw [bitK_test _ _ _ hj, Nat.testBit_and, show (4294967295 - x) = 2 ^ 32 - (x + 1) by omega, Nat.testBit_two_pow_sub_succ hx, ← all32, bitK_test _ _ _ hj]
  simp [hj]
def leeB (l : List Pt) (j : Nat) : Bool := !covB l (fun _ => true) j
def leeN (l : List Pt) : Nat := bitK (leeB l) 32
def leeV (l : List Pt) : Int := if pipesE l = 0 then (leeN l : Nat) else 0
theorem every_bits {n i : Nat} (h : i < n) : (2 ^ n - 1).testBit i = true := by
  rw [Nat.testBit_two_pow_sub_one]
  simpa using h
theorem cov_every (l : List Pt) : covN l (2 ^ l.length - 1).testBit = covN l fun _ => true := covN_congr fun i hi => every_bits hi
theorem every_lt {n : Nat} (h : n ≤ 10) : 2 ^ n - 1 < 4294967296 := by
  have : 2 ^ n ≤ 2 ^ 10 := Nat.pow_le_pow_right (by omega) h
  have e : (2 : Nat) ^ 10 = 1024 := by decide
  omega
theorem Lee_any (A : Option Addr) (c : Nat) (l : List Pt) (w : World) (hr : Rd w w.heap.size A (l.flatMap Pt.cells)) (hn : l.length ≤ 9223372036854775807) :
    Calls Tryd.prog 38 #[.slice A l.length c] w fun e w' => e = .returned (.tuple #[.int .i64 (leeV l), .int .i64 (pipesE l)]) ∧ Below w.heap.size w w' := by
  have HR := Lib.hid hr
  have HV := Lib.hid (fun w h => ValidatePipes_any A c l w h hn)
  clear hr
  unfold leeV
  by_cases hE : pipesE l = 0
  · rw [if_pos hE, hE]
    obtain ⟨h10, _⟩ := pipesE_zero hE
    have HC := Lib.hid (fun w h => covered_any A c l (2 ^ l.length - 1) w h hE (every_lt h10))
    have HP := Lib.hid (fun w => everyPipe_any A c l.length w h10)
    rw [cov_every] at HC
    have hl := covN_lt l (fun _ => true)
    have han := andNot_all hl
    have hlee : leeN l = bitK (fun j => !(covN l fun _ => true).testBit j) 32 := bitK_congr fun j hj => by
      unfold leeB covN
      rw [bitK_test _ _ _ hj]
    rw [← hlee] at han
    have hll : leeN l < 4294967296 := bit32 _
    rw [hE] at HV
    clear hE hlee
    generalize leeN l = E at *
    generalize covN l (fun _ => true) = C at *
    generalize 2 ^ l.length - 1 = V at *
    have hw : IntKind.i64.wrap (E : Int) = (E : Int) := by rw [IntKind.wrap_i64]; omega
    go_enter Tryd.func38, Tryd.ntmps38
    go_wp2_with fail
    refine (HV.out w HR.out).mono ?_
    rintro e w1 ⟨rfl, hb⟩
    have B1 := Lib.hid hb
    have R1 := Lib.hid ((HR.out.below hb (Nat.le_refl _)).more hb.size)
    clear hb
    go_wp2_with fail
    refine (HP.out w1).mono ?_
    rintro e w' ⟨rfl, rfl⟩
    go_wp2_with fail
    refine (HC.out w1 R1.out).mono ?_
    rintro e w2 ⟨rfl, hb⟩
    have B2 := Lib.hid (B1.out.trans (hb.mono B1.out.size))
    clear hb
    go_wp2_with fail
    go_ret2
    exact ⟨rfl, B2.out⟩
  · rw [if_neg hE]
    generalize pipesE l = E at *
    have hb1 : (E == 0) = false := by simpa using hE
    have hb2 : (E != 0) = true := by simpa using hE
    clear hE
    go_enter Tryd.func38, Tryd.ntmps38
    go_wp2_with fail
    refine (HV.out w HR.out).mono ?_
    rintro e w1 ⟨rfl, hb⟩
    have B1 := Lib.hid hb
    clear hb
    go_wp2_with fail
    go_ret2
    exact ⟨rfl, B1.out⟩

/-! ### The document's side -/
theorem rhas_int (a : Pt) (p : Nat) (w : World) (ha : okA a = true) (hp : p < 32) : Calls Tryd.prog 57 #[a.v, .int .i64 p] w fun e w' => e = .returned (.bool (hasN a p)) ∧ Below w.heap.size w w' := rhas_any a p w (arcE_yes ha) hp
set_option maxRecDepth 4000 in
theorem rworkable_any (A : Option Addr) (c : Nat) (l : List Pt) (p : Nat) (w : World) (hr : Rd w w.heap.size A (l.flatMap Pt.cells)) (hn : pipesE l = 0) (hp : p < 32) :
    Calls Tryd.prog 75 #[.slice A l.length c, .int .i64 p] w (MadeI w (wkL l p)) := by
  have HR := Lib.hid hr
  obtain ⟨h10, hok⟩ := pipesE_zero hn
  have HO := Lib.hid hok
  have HH := Lib.hid (fun (a : Pt) w (h : okA a = true) => rhas_int a p w h hp)
  have HL := Lib.hid (fun k => listK_le (workB l p) k)
  have HY := Lib.hid (fun k h => listK_yes (f := workB l p) (k := k) h)
  have HN := Lib.hid (fun k h => listK_no (f := workB l p) (k := k) h)
  have HE := Lib.hid (show wkL l p = listK (workB l p) l.length from rfl)
  clear hr hok hn
  go_enter Tryd.func75, Tryd.ntmps75
  go_wp2_with fail
  go_loopw [5, 6] (fun v i wr => ∃ (k : Nat) (A9 : Option Addr) (c9 : Nat), k ≤ l.length ∧ i = .int .i64 k ∧ v = .slice A9 (listK (workB l p) k).length c9 ∧ wr.ownsRow w.heap.size 3 1 v (listK (workB l p) k).length (ints (listK (workB l p) k)) ∧ Below w.heap.size w wr) (fun _ i _ => l.length - (intOf i).toNat)
  case atStart => exact ⟨0, none, 0, by omega, rfl, rfl, World.ownsRow_nil _ _ _ _, Below.refl _ _⟩
  case round =>
    obtain ⟨k, A9, c9, hk, rfl, rfl, hown, hb⟩ := hrel
    have O := Lib.hid hown
    have BW := Lib.hid hb
    clear hown hb
    by_cases hlt : k < l.length
    · obtain ⟨b, o, a, rfl, hd, c0, c1'⟩ := (HR.out.below BW.out (Nat.le_refl _)).pt k hlt
      have hw := workB_at (p := p) hd.out
      have HQ := Lib.hid (fun w => HH.out a w (HO.out a (List.mem_of_getElem? hd.out)))
      have hle := HL.out k
      cases hq : hasN a p
      · have HS := Lib.hid (HN.out k (by rw [hw, hq]))
        rw [hq] at HQ
        clear hq hw
        generalize listK (workB l p) k = L at *
        obtain ⟨x, y⟩ := a
        unfold Pt.v at HQ
        simp only at c0 c1' HQ
        go_wp2_with fail
        refine (HQ.out wr).mono ?_
        rintro e w2 ⟨rfl, hb⟩
        have B2 := Lib.hid hb
        have O2 := Lib.hid (own_below O.out hb)
        have B3 := Lib.hid (BW.out.trans (hb.mono BW.out.size))
        clear hb
        go_wp2_with fail
        go_roundw
        case rel => exact ⟨k + 1, A9, c9, by omega, by go_num, by rw [HS.out], by rw [HS.out]; exact O2.out, B3.out⟩
        case measure => simp [intOf]; omega
      · have HS := Lib.hid (HY.out k (by rw [hw, hq]))
        rw [hq] at HQ
        clear hq hw
        generalize listK (workB l p) k = L at *
        obtain ⟨x, y⟩ := a
        unfold Pt.v at HQ
        simp only at c0 c1' HQ
        go_wp2_with fail
        refine (HQ.out wr).mono ?_
        rintro e w2 ⟨rfl, hb⟩
        have B2 := Lib.hid hb
        have O2 := Lib.hid (own_below O.out hb)
        have B3 := Lib.hid (BW.out.trans (hb.mono BW.out.size))
        clear hb
        go_wp2_with (at_builtin; refine app Tryd.eInt rfl _ _ rfl rfl (O2.out.alloc _) (B3.out.alloc B3.out.size _) (size_alloc' B3.out.size _) rfl (Rd.one w2 (.int .i64 k) 3 (Nat.lt_succ_self _)) (by simp) (ints_one [(k : Int)]) (L.length + 1) rfl (by omega) ?_; intro A4 c4 w4 o4 b4 _ _; have O4 := Lib.hid o4; have B4 := Lib.hid b4; clear o4 b4)
        go_roundw
        case rel => exact ⟨k + 1, A4, c4, by omega, by go_num, by rw [HS.out, List.length_append]; rfl, by rw [HS.out, ints_append, List.length_append]; exact O4.out, B4.out⟩
        case measure => simp [intOf]; omega
    · have hks : k = l.length := by omega
      subst hks
      have hown := O.out
      obtain ⟨A8, c8, he, hc8⟩ := own_form hown
      have hc : (listK (workB l p) l.length).length ≤ c9 := by injection he with h1 h2 h3; omega
      clear hown he
      go_wp2_with fail
      go_ret
      exact ⟨A9, c9, by rw [HE.out]; rfl, by rw [HE.out]; exact hc, by rw [HE.out]; exact Rd.of_own O.out, BW.out⟩
theorem rWorkable_any (A : Option Addr) (c : Nat) (l : List Pt) (p : Int) (w : World) (hr : Rd w w.heap.size A (l.flatMap Pt.cells)) (hn : l.length ≤ 9223372036854775807) :
    Calls Tryd.prog 37 #[.slice A l.length c, .int .i64 p] w (MadeIE w (wkV l p) (wkE l p)) := by
  have HR := Lib.hid hr
  have HV := Lib.hid (fun w h => rValidatePipes_any A c l w h hn)
  have HX := Lib.hid (fun w => risPoint_any p w)
  clear hr
  by_cases hE : pipesE l = 0
  · have hW := fun p w h (g : p < 32) => rworkable_any A c l p w h hE g
    rw [hE] at HV
    by_cases hp : pt p = true
    · have e1 : wkE l p = 0 := by unfold wkE; rw [if_pos hE, if_pos hp]
      have e2 : wkV l p = wkL l p.toNat := if_pos e1
      rw [hp] at HX
      rw [pt_iff] at hp
      obtain ⟨q, rfl⟩ := Int.eq_ofNat_of_zero_le hp.1
      have HW := Lib.hid (fun w h => hW q w h (by omega))
      rw [Int.toNat_natCast] at e2
      rw [e1, e2]
      clear hE hp e1 e2 hW
      generalize wkL l q = L at *
      go_enter Tryd.func37, Tryd.ntmps37
      go_wp2_with fail
      refine (HV.out w HR.out).mono ?_
      rintro e w1 ⟨rfl, hb⟩
      have B1 := Lib.hid hb
      have R1 := Lib.hid ((HR.out.below hb (Nat.le_refl _)).more hb.size)
      clear hb
      go_wp2_with fail
      refine (HX.out w1).mono ?_
      rintro e w' ⟨rfl, rfl⟩
      go_wp2_with fail
      refine (HW.out w1 R1.out).mono ?_
      rintro e w3 ⟨A3, c3, rfl, hc3, hr3, hb3⟩
      go_wp2_with fail
      go_ret2
      exact ⟨A3, c3, rfl, hc3, hr3, B1.out.trans (hb3.mono B1.out.size)⟩
    · have e1 : wkE l p = 1 := by unfold wkE; rw [if_pos hE, if_neg hp]
      have e2 : wkV l p = [] := by unfold wkV; rw [e1]; rfl
      rw [Bool.not_eq_true] at hp
      rw [hp] at HX
      rw [e1, e2]
      clear hE hp e1 e2 hW
      go_enter Tryd.func37, Tryd.ntmps37
      go_wp2_with fail
      refine (HV.out w HR.out).mono ?_
      rintro e w1 ⟨rfl, hb⟩
      have B1 := Lib.hid hb
      clear hb
      go_wp2_with fail
      refine (HX.out w1).mono ?_
      rintro e w' ⟨rfl, rfl⟩
      go_wp2_with fail
      go_ret2
      exact ⟨none, 0, rfl, by decide, .inl rfl, B1.out⟩
  · have e1 : wkE l p = pipesE l := if_neg hE
    have e2 : wkV l p = [] := by unfold wkV; rw [e1, if_neg hE]
    rw [e1, e2]
    generalize pipesE l = E at *
    have hb1 : (E == 0) = false := by simpa using hE
    have hb2 : (E != 0) = true := by simpa using hE
    clear hE e1 e2
    go_enter Tryd.func37, Tryd.ntmps37
    go_wp2_with fail
    refine (HV.out w HR.out).mono ?_
    rintro e w1 ⟨rfl, hb⟩
    have B1 := Lib.hid hb
    clear hb
    go_wp2_with fail
    go_ret2
    exact ⟨none, 0, rfl, by decide, .inl rfl, B1.out⟩
theorem wk_len (l : List Pt) (p : Nat) : ((wkL l p).length == 0) = leeB l p := by
  unfold wkL leeB covB
  have key : ∀ k, ((listK (workB l p) k).length == 0) = !covK l (fun _ => true) k p := by
    intro k
    induction k with
    | zero => rfl
    | succ k ih =>
      rw [covK_next]
      cases hq : workB l p k
      · rw [listK_no hq, ih]
        simp
      · rw [listK_yes hq]
        simp
  exact key _
set_option maxHeartbeats 400000 in
theorem rLee_any (A : Option Addr) (c : Nat) (l : List Pt) (w : World) (hr : Rd w w.heap.size A (l.flatMap Pt.cells)) (hn : l.length ≤ 9223372036854775807) :
    Calls Tryd.prog 39 #[.slice A l.length c] w fun e w' => e = .returned (.tuple #[.int .i64 (leeV l), .int .i64 (pipesE l)]) ∧ Below w.heap.size w w' := by
  have HR := Lib.hid hr
  have HV := Lib.hid (fun w h => rValidatePipes_any A c l w h hn)
  clear hr
  unfold leeV
  by_cases hE : pipesE l = 0
  · rw [if_pos hE, hE]
    have HW := Lib.hid (fun p w h (g : p < 32) => rworkable_any A c l p w h hE g)
    have HNum := Lib.hid (fun w => rnumber_any (leeB l) w)
    rw [hE] at HV
    have HLn := Lib.hid (fun p => wk_len l p)
    unfold leeN
    clear hE
    go_enter Tryd.func39, Tryd.ntmps39
    go_wp2_with fail
    refine (HV.out w HR.out).mono ?_
    rintro e w1 ⟨rfl, hb⟩
    have B1 := Lib.hid hb
    have R1 := Lib.hid ((HR.out.below hb (Nat.le_refl _)).more hb.size)
    clear hb
    obtain ⟨W2, hW2, hblk, hs, hb2⟩ := one_arr (leeB l) w1 70
    have BK := Lib.hid hblk
    have B2 := Lib.hid hb2
    clear hblk hs hb2
    go_wp2_with fail
    clear hW2
    go_loopw [6] (fun p wr => ∃ k : Nat, k ≤ 32 ∧ p = .int .i64 k ∧ wr.heap[w1.heap.size]? = some (.cells (bools (upTo (leeB l) k)).toArray 70 (0, 0)) ∧ Below w1.heap.size w1 wr) (fun p _ => 32 - (intOf p).toNat)
    case atStart => exact ⟨0, by omega, rfl, BK.out, B2.out⟩
    case round =>
      obtain ⟨k, hk, rfl, hblk, hb⟩ := hrel
      have BK := Lib.hid hblk
      have BW := Lib.hid hb
      have hg : w1.heap.size < wr.heap.size := lt_of_block hblk
      have R2 := Lib.hid ((R1.out.below hb (Nat.le_refl _)).more hb.size)
      clear hb hblk
      by_cases hlt : k < 32
      · have HQ := Lib.hid (fun w h => HW.out k w h hlt)
        have hlen := HLn.out k
        have hlen2 : (((wkL l k).length : Int) == 0) = leeB l k := by
          rw [← hlen]
          cases hb : ((wkL l k).length == 0)
          · have : (wkL l k).length ≠ 0 := by simpa using hb
            exact beq_eq_false_iff_ne.2 (by omega)
          · have : (wkL l k).length = 0 := by simpa using hb
            exact beq_iff_eq.2 (by omega)
        have hll : (wkL l k).length ≤ 9223372036854775807 := by have := listK_le (workB l k) l.length; unfold wkL; omega
        clear hlen
        generalize wkL l k = L at *
        go_wp2_with fail
        refine (HQ.out wr R2.out).mono ?_
        rintro e w2 ⟨A2, c2, rfl, hc2, hr2, hb⟩
        have BK2 := Lib.hid ((hb.block _ hg).trans BK.out)
        have B3 := Lib.hid (BW.out.trans (hb.mono BW.out.size))
        have hcell : w2.cell? ⟨w1.heap.size, k, none⟩ = some (.bool (upTo (leeB l) k k)) := by rw [blk_cell BK2.out, List.getElem?_toArray]; exact bools_at hlt
        have hfree := blk_free BK2.out k
        clear hb hr2 hc2
        go_wp2_with fail
        go_roundw
        case rel => exact ⟨k + 1, by omega, by go_num, by rw [blk_set BK2.out, upTo_next (leeB l) k _ rfl], Below.setCell B3.out (Nat.le_refl _) _⟩
        case measure => simp [intOf]; omega
      · have hks : k = 32 := by omega
        subst hks
        go_wp2_with ((with_reducible show wpList _ _ _ (⟨some 23, _, _, _, _, _⟩ :: _) _ _); refine wpList_load_row rfl 70 (.tmp 5) rfl w1.heap.size rfl _ _ _ _ BK.out Tryd.underlying70 rfl (size_bools _) ?_)
        rw [upTo_all]
        refine (HNum.out wr).mono ?_
        rintro e w2 ⟨rfl, hb⟩
        have B5 := Lib.hid (B1.out.trans (BW.out.mono B1.out.size))
        go_wp2_with fail
        go_ret2
        exact ⟨rfl, B5.out.trans (hb.mono B5.out.size)⟩
  · rw [if_neg hE]
    generalize pipesE l = E at *
    have hb1 : (E == 0) = false := by simpa using hE
    have hb2 : (E != 0) = true := by simpa using hE
    clear hE
    go_enter Tryd.func39, Tryd.ntmps39
    go_wp2_with fail
    refine (HV.out w HR.out).mono ?_
    rintro e w1 ⟨rfl, hb⟩
    have B1 := Lib.hid hb
    clear hb
    go_wp2_with fail
    go_ret2
    exact ⟨rfl, B1.out⟩
end Go.Proofs.YtnnlbllkckakbaaDoor

/-
  The walks of Fewest of package wind, of first and Fewest of the reference. No condition.
-/
import Derived.Test.YtnnlbllkckakbaaDoorWb4
namespace Go.Proofs.YtnnlbllkckakbaaDoor
open Go.RowKit
set_option linter.unusedVariables false

def MadeF (w : World) (L : List Int) (b : Bool) (E : Int) (e : Ending) (w' : World) : Prop := ∃ A c, e = .returned (.tuple #[.slice A L.length c, .bool b, .int .i64 E]) ∧ L.length ≤ c ∧ Rd w' w'.heap.size A (ints L) ∧ Below w.heap.size w w'
theorem covF_print (l : List Pt) (n : Nat) : (((covN l n.testBit : Nat) : Int) == 4294967295) = covF l n := by
  unfold covF
  cases hb : decide (covN l n.testBit = 4294967295)
  · have : ¬ covN l n.testBit = 4294967295 := of_decide_eq_false hb
    exact beq_eq_false_iff_ne.2 (by omega)
  · have : covN l n.testBit = 4294967295 := of_decide_eq_true hb
    exact beq_iff_eq.2 (by omega)
theorem fewE_bad {l : List Pt} (h : ¬ pipesE l = 0) : fewOk l = false ∧ fewL l = [] := by
  have e : fewOk l = false := by unfold fewOk; rw [decide_eq_false h]; rfl
  exact ⟨e, by unfold fewL; rw [e]; rfl⟩
set_option maxRecDepth 4000 in
set_option maxHeartbeats 800000 in
theorem Fewest_any (A : Option Addr) (c : Nat) (l : List Pt) (w : World) (hr : Rd w w.heap.size A (l.flatMap Pt.cells)) (hn : l.length ≤ 9223372036854775807) :
    Calls Tryd.prog 45 #[.slice A l.length c] w (MadeF w (fewL l) (fewOk l) (pipesE l)) := by
  have HR := Lib.hid hr
  have HV := Lib.hid (fun w h => ValidatePipes_any A c l w h hn)
  clear hr
  by_cases hE : pipesE l = 0
  · obtain ⟨h10, _⟩ := pipesE_zero hE
    have HP := Lib.hid (fun w => everyPipe_any A c l.length w h10)
    have hlt := every_lt h10
    have HC := Lib.hid (fun n w h (g : n < 4294967296) => covered_any A c l n w h hE g)
    have HCP := Lib.hid (fun n => covF_print l n)
    have HCL := Lib.hid (fun n => covN_lt l (Nat.testBit n))
    have HY := Lib.hid (fun k h => fewP_yes (l := l) (k := k) h)
    have HN := Lib.hid (fun k h => fewP_no (l := l) (k := k) h)
    have HLt := Lib.hid (fun k h => fewP_lt (l := l) (k := k) h)
    have HP0 := Lib.hid (show fewP l 0 = 2 ^ l.length - 1 from rfl)
    cases hall : covF l (2 ^ l.length - 1)
    · have e1 : fewOk l = false := by unfold fewOk; rw [hall, Bool.and_false]
      have e2 : fewL l = [] := by unfold fewL; rw [e1]; rfl
      have hcp := HCP.out (2 ^ l.length - 1)
      rw [hall] at hcp
      have hcn : (((covN l (2 ^ l.length - 1).testBit : Nat) : Int) != 4294967295) = true := by
        have := beq_eq_false_iff_ne.1 hcp
        simpa using this
      rw [e1, e2, hE]
      rw [hE] at HV
      have HC1 := Lib.hid (fun w h => HC.out (2 ^ l.length - 1) w h hlt)
      have hcl := HCL.out (2 ^ l.length - 1)
      clear hE hall e1 e2 HC HCP HCL HY HN HLt HP0
      generalize covN l (2 ^ l.length - 1).testBit = CC at *
      generalize 2 ^ l.length - 1 = V at *
      go_enter Tryd.func45, Tryd.ntmps45
      go_wp2_with fail
      refine (HV.out w HR.out).mono ?_
      rintro e w1 ⟨rfl, hb⟩
      have B1 := Lib.hid hb
      have R1 := Lib.hid ((HR.out.below hb (Nat.le_refl _)).more hb.size)
      clear hb
      go_wp2_with fail
      refine (HP.out w1).mono ?_
      rintro e w' ⟨rfl, rfl⟩
      go_wp2_with fail
      refine (HC1.out w1 R1.out).mono ?_
      rintro e w2 ⟨rfl, hb⟩
      have B2 := Lib.hid (B1.out.trans (hb.mono B1.out.size))
      clear hb
      go_wp2_with fail
      go_ret3
      exact ⟨none, 0, rfl, by decide, .inl rfl, B2.out⟩
    · have e1 : fewOk l = true := by unfold fewOk; rw [hE, hall]; rfl
      have e2 : fewL l = listB (fewP l (2 ^ l.length - 1)).testBit := by unfold fewL; rw [if_pos e1]
      have hcp := HCP.out (2 ^ l.length - 1)
      rw [hall] at hcp
      have hcn : (((covN l (2 ^ l.length - 1).testBit : Nat) : Int) != 4294967295) = false := by
        have := beq_iff_eq.1 hcp
        simpa using this
      rw [e1, e2, hE]
      rw [hE] at HV
      have HC1 := Lib.hid (fun w h => HC.out (2 ^ l.length - 1) w h hlt)
      have hcl := HCL.out (2 ^ l.length - 1)
      have HL := Lib.hid (fun x w h => list_any x w h)
      have HCF := Lib.hid (fun x y w h g => compareFew_any x y w h g)
      clear hE hall e1 e2
      obtain ⟨P, hP⟩ : ∃ P, fewP l = P := ⟨_, rfl⟩
      rw [hP] at HP0 ⊢
      simp only [hP] at HY HN HLt
      clear hP
      generalize covN l (2 ^ l.length - 1).testBit = CC at *
      generalize 2 ^ l.length - 1 = V at *
      go_enter Tryd.func45, Tryd.ntmps45
      go_wp2_with fail
      refine (HV.out w HR.out).mono ?_
      rintro e w1 ⟨rfl, hb⟩
      have B1 := Lib.hid hb
      have R1 := Lib.hid ((HR.out.below hb (Nat.le_refl _)).more hb.size)
      clear hb
      go_wp2_with fail
      refine (HP.out w1).mono ?_
      rintro e w' ⟨rfl, rfl⟩
      go_wp2_with fail
      refine (HC1.out w1 R1.out).mono ?_
      rintro e w2 ⟨rfl, hb⟩
      have B2 := Lib.hid (B1.out.trans (hb.mono B1.out.size))
      have R2 := Lib.hid ((R1.out.below hb (Nat.le_refl _)).more hb.size)
      clear hb
      go_wp2_with fail
      refine (HP.out w2).mono ?_
      rintro e w' ⟨rfl, rfl⟩
      go_wp2_with fail
      clear hcp hcn hcl
      go_loopw [6, 21] (fun v i wr => ∃ k : Nat, k ≤ V ∧ i = .int .u32 k ∧ v = .int .u32 (P k : Nat) ∧ Below w2.heap.size w2 wr) (fun _ i _ => V - (intOf i).toNat)
      case atStart => exact ⟨0, by omega, rfl, by rw [HP0.out], Below.refl _ _⟩
      case round =>
        obtain ⟨k, hk, rfl, rfl, hb⟩ := hrel
        have BW := Lib.hid hb
        have RW := Lib.hid ((R2.out.below hb (Nat.le_refl _)).more hb.size)
        clear hb
        by_cases hlk : k < V
        · have hpl := HLt.out k (by omega)
          have HC2 := Lib.hid (fun w h => HC.out k w h (by omega))
          have hcpk := HCP.out k
          have hclk := HCL.out k
          have hyk := HY.out k
          have hnk := HN.out k
          have HCFk := Lib.hid (fun w => HCF.out k (P k) w (by omega) (by omega))
          have hlk' : (k : Int) < (V : Int) := by omega
          cases hc : covF l k
          · rw [hc] at hcpk
            have HS := Lib.hid (hnk (by rw [hc]; rfl))
            clear hc hyk hnk
            generalize covN l k.testBit = D at *
            generalize P k = pk at *
            go_wp2_with fail
            refine (HC2.out wr RW.out).mono ?_
            rintro e w4 ⟨rfl, hb⟩
            have B4 := Lib.hid (BW.out.trans (hb.mono BW.out.size))
            clear hb
            go_wp2_with fail
            go_roundw
            case rel => exact ⟨k + 1, by omega, by go_num, by rw [HS.out], B4.out⟩
            case measure => simp [intOf]; omega
          · rw [hc] at hcpk
            cases hl2 : ltF k (P k)
            · have HS := Lib.hid (hnk (by rw [hc, hl2]; rfl))
              have hcf : decide (cfI (listB k.testBit) (listB (P k).testBit) < 0) = false := hl2
              clear hc hyk hnk hl2
              generalize cfI (listB k.testBit) (listB (P k).testBit) = F at *
              generalize covN l k.testBit = D at *
              generalize P k = pk at *
              go_wp2_with fail
              refine (HC2.out wr RW.out).mono ?_
              rintro e w4 ⟨rfl, hb⟩
              have B4 := Lib.hid (BW.out.trans (hb.mono BW.out.size))
              clear hb
              go_wp2_with fail
              refine (HCFk.out w4).mono ?_
              rintro e w5 ⟨rfl, hb⟩
              have B5 := Lib.hid (B4.out.trans (hb.mono B4.out.size))
              clear hb
              go_wp2_with fail
              go_roundw
              case rel => exact ⟨k + 1, by omega, by go_num, by rw [HS.out], B5.out⟩
              case measure => simp [intOf]; omega
            · have HS := Lib.hid (hyk (by rw [hc, hl2]; rfl))
              have hcf : decide (cfI (listB k.testBit) (listB (P k).testBit) < 0) = true := hl2
              clear hc hyk hnk hl2
              generalize cfI (listB k.testBit) (listB (P k).testBit) = F at *
              generalize covN l k.testBit = D at *
              generalize P k = pk at *
              go_wp2_with fail
              refine (HC2.out wr RW.out).mono ?_
              rintro e w4 ⟨rfl, hb⟩
              have B4 := Lib.hid (BW.out.trans (hb.mono BW.out.size))
              clear hb
              go_wp2_with fail
              refine (HCFk.out w4).mono ?_
              rintro e w5 ⟨rfl, hb⟩
              have B5 := Lib.hid (B4.out.trans (hb.mono B4.out.size))
              clear hb
              go_wp2_with fail
              go_roundw
              case rel => exact ⟨k + 1, by omega, by go_num, by rw [HS.out], B5.out⟩
              case measure => simp [intOf]; omega
        · obtain rfl : k = V := by omega
          have hpl := HLt.out k (Nat.le_refl _)
          have HLk := Lib.hid (fun w => HL.out (P k) w (by omega))
          unfold hasV at HLk
          have BB := Lib.hid (B2.out.trans (BW.out.mono B2.out.size))
          generalize P k = pk at *
          go_wp2_with fail
          refine (HLk.out wr).mono ?_
          rintro e w6 ⟨A6, c6, rfl, hc6, hr6, hb6⟩
          go_wp2_with fail
          go_ret3
          exact ⟨A6, c6, rfl, hc6, hr6, BB.out.trans (hb6.mono BB.out.size)⟩
  · obtain ⟨e1, e2⟩ := fewE_bad hE
    rw [e1, e2]
    generalize pipesE l = E at *
    have hb1 : (E == 0) = false := by simpa using hE
    have hb2 : (E != 0) = true := by simpa using hE
    clear hE e1 e2
    go_enter Tryd.func45, Tryd.ntmps45
    go_wp2_with fail
    refine (HV.out w HR.out).mono ?_
    rintro e w1 ⟨rfl, hb⟩
    have B1 := Lib.hid hb
    clear hb
    go_wp2_with fail
    go_ret3
    exact ⟨none, 0, rfl, by decide, .inl rfl, B1.out⟩
theorem cfI_first {A B : List Int} : decide (cfI A B < 0) = (if A.length = B.length then decide (lexC A B < 0) else decide (A.length < B.length)) := by
  by_cases h : A.length = B.length
  · rw [if_pos h, cfI_same h]
  · rw [if_neg h]
    rcases Nat.lt_or_ge A.length B.length with h1 | h1
    · rw [cfI_lt h1, decide_eq_true h1]; rfl
    · rw [cfI_gt (by omega), decide_eq_false (show ¬ A.length < B.length by omega)]; rfl
def firstB (A B : List Int) : Bool := decide (cfI A B < 0)
set_option maxRecDepth 4000 in
theorem first_any (A1 A2 : Option Addr) (c1 c2 : Nat) (L1 L2 : List Int) (w : World) (hr1 : Rd w w.heap.size A1 (ints L1)) (hr2 : Rd w w.heap.size A2 (ints L2)) (hn1 : L1.length ≤ 1000) (hn2 : L2.length ≤ 1000) :
    Calls Tryd.prog 84 #[.slice A1 L1.length c1, .slice A2 L2.length c2] w fun e w' => e = .returned (.bool (firstB L1 L2)) ∧ ∃ m, w' = w.drewN m := by
  have R1 := Lib.hid hr1
  have R2 := Lib.hid hr2
  clear hr1 hr2
  by_cases hne : L1.length = L2.length
  · have HE := Lib.hid (show firstB L1 L2 = decide (lexC L1 L2 < 0) by unfold firstB; rw [cfI_first, if_pos hne])
    have hb1 : ((L1.length : Int) == (L2.length : Int)) = true := beq_iff_eq.2 (by omega)
    have hb2 : ((L1.length : Int) != (L2.length : Int)) = false := by rw [bne, hb1]; rfl
    have HN := Lib.hid hne
    clear hne
    go_enter Tryd.func84, Tryd.ntmps84
    go_wp2_with fail
    go_loopw [5] (fun i wr => ∃ k : Nat, k ≤ L1.length ∧ i = .int .i64 k ∧ lexC L1 L2 = lexC (L1.drop k) (L2.drop k) ∧ ∃ m, wr = w.drewN m) (fun i _ => L1.length - (intOf i).toNat)
    case atStart => exact ⟨0, by omega, rfl, rfl, 0, rfl⟩
    case round =>
      obtain ⟨k, hk, rfl, hlex, m, rfl⟩ := hrel
      have HL := Lib.hid hlex
      clear hlex
      by_cases h1 : k < L1.length
      · obtain ⟨b, o, x, rfl, hx, c0⟩ := R1.out.int k h1
        obtain ⟨b', o', y, rfl, hy, d0⟩ := R2.out.int k (by have := HN.out; omega)
        have hd1 := drop_at hx.out
        have hd2 := drop_at hy.out
        have HL2 := HL.out
        rw [hd1, hd2] at HL2
        have h2 : k < L2.length := by have := HN.out; omega
        have i1 : (k : Int) < (L1.length : Int) := by omega
        have i2 : (k : Int) < (L2.length : Int) := by omega
        rcases Int.lt_trichotomy x y with h | h | h
        · rw [lexC_cons_lt h] at HL2
          have HX := Lib.hid (show firstB L1 L2 = true by rw [HE.out, HL2]; rfl)
          have e1 : (x == y) = false := by simp; omega
          have e2 : (x != y) = true := by simp; omega
          have e3 : decide (x < y) = true := by simpa using h
          clear hd1 hd2 HL2 h
          go_wp2_with fail
          go_quiet (fail)
          go_wp2_with fail
          go_quiet (fail)
          go_wp2_with fail
          go_ret
          exact ⟨by rw [HX.out]; rfl, _, (by rw [World.drewN_drewN, World.drewN_drewN])⟩
        · subst h
          rw [lexC_cons_eq] at HL2
          have HX := Lib.hid HL2
          clear hd1 hd2 HL2
          go_wp2_with fail
          go_quiet (fail)
          go_wp2_with fail
          go_roundw
          case rel => exact ⟨k + 1, by omega, by go_num, HX.out, _, rfl⟩
          case measure => simp [intOf]; omega
        · rw [lexC_cons_gt h] at HL2
          have HX := Lib.hid (show firstB L1 L2 = false by rw [HE.out, HL2]; rfl)
          have e1 : (x == y) = false := by simp; omega
          have e2 : (x != y) = true := by simp; omega
          have e3 : decide (x < y) = false := by simp; omega
          clear hd1 hd2 HL2 h
          go_wp2_with fail
          go_quiet (fail)
          go_wp2_with fail
          go_quiet (fail)
          go_wp2_with fail
          go_ret
          exact ⟨by rw [HX.out]; rfl, _, (by rw [World.drewN_drewN, World.drewN_drewN])⟩
      · have hk2 : k = L1.length := by omega
        have HL2 := HL.out
        rw [hk2, show L1.drop L1.length = [] from List.drop_eq_nil_of_le (Nat.le_refl _), show L2.drop L1.length = [] from List.drop_eq_nil_of_le (by have := HN.out; omega)] at HL2
        have HX := Lib.hid (show firstB L1 L2 = false by rw [HE.out, HL2]; rfl)
        clear HL2 hk2
        go_wp2_with fail
        go_ret
        exact ⟨by rw [HX.out]; rfl, _, rfl⟩
  · have HE := Lib.hid (show firstB L1 L2 = decide (L1.length < L2.length) by
      unfold firstB
      rw [cfI_first, if_neg hne])
    have hb1 : ((L1.length : Int) == (L2.length : Int)) = false := by
      refine beq_eq_false_iff_ne.2 ?_
      omega
    have hb2 : ((L1.length : Int) != (L2.length : Int)) = true := by rw [bne, hb1]; rfl
    rw [HE.out]
    clear hne
    obtain ⟨q, hq⟩ : ∃ q, decide (L1.length < L2.length) = q := ⟨_, rfl⟩
    rw [hq]
    go_enter Tryd.func84, Tryd.ntmps84
    go_wp2_with fail
    go_ret
    exact ⟨rfl, 0, rfl⟩
theorem shr_bit (n i : Nat) (hn : n < 9223372036854775808) : (bits .and .i64 ((n : Int) / 2 ^ i) 1 == 1) = n.testBit i := by
  have h := bit_div (n := n) (j := i)
  have e : (n : Int) / 2 ^ i = ((n / 2 ^ i : Nat) : Int) := by simp
  have hd : n / 2 ^ i ≤ n := Nat.div_le_self _ _
  rw [e, show (1 : Int) = ((1 : Nat) : Int) from rfl, i64_and_nat _ _ (by omega) (by decide), Nat.and_one_is_mod, h]
  cases n.testBit i <;> rfl
theorem rcovers_mem (A1 A2 : Option Addr) (c1 c2 : Nat) (l : List Pt) (n : Nat) (w : World) (hr1 : Rd w w.heap.size A1 (l.flatMap Pt.cells)) (hr2 : Rd w w.heap.size A2 (ints (listK n.testBit l.length))) (hn : pipesE l = 0) :
    Calls Tryd.prog 82 #[.slice A1 l.length c1, .slice A2 (listK n.testBit l.length).length c2] w fun e w' => e = .returned (.bool (covF l n)) ∧ Below w.heap.size w w' := by
  rw [← cov_mem]
  have := listK_le n.testBit l.length
  have h10 := (pipesE_zero hn).1
  exact rcovers_any A1 A2 c1 c2 l _ w hr1 hr2 hn (setL_listK _ _) (by omega)
/-- What the reference has found so far. -/
def bestOf (l : List Pt) : Option Nat → List Int
  | none => []
  | some b => listK (Nat.testBit b) l.length
def foundOf : Option Nat → Bool
  | none => false
  | some _ => true
theorem fewQ_cases (l : List Pt) (k : Nat) (hk : k < 2 ^ l.length) (h32 : l.length ≤ 32) :
    ((foundOf (fewQ l k) = false ∨ firstB (listK k.testBit l.length) (bestOf l (fewQ l k)) = true) ∧ covF l k = true ∧ fewQ l (k + 1) = some k) ∨
    ((foundOf (fewQ l k) = false ∨ firstB (listK k.testBit l.length) (bestOf l (fewQ l k)) = true) ∧ covF l k = false ∧ fewQ l (k + 1) = fewQ l k) ∨
    (foundOf (fewQ l k) = true ∧ firstB (listK k.testBit l.length) (bestOf l (fewQ l k)) = false ∧ fewQ l (k + 1) = fewQ l k) := by
  cases hq : fewQ l k with
  | none =>
    cases hc : covF l k
    · exact .inr (.inl ⟨.inl rfl, rfl, by rw [fewQ, hq]; simp [hc]⟩)
    · exact .inl ⟨.inl rfl, rfl, by rw [fewQ, hq]; simp [hc]⟩
  | some b =>
    have hb := ((fewQ_min l k).2 b hq).1
    have e : firstB (listK k.testBit l.length) (bestOf l (some b)) = ltF k b := by
      unfold firstB ltF bestOf
      rw [listB_small hk h32, listB_small (show b < 2 ^ l.length by omega) h32]
    cases hl : ltF k b
    · exact .inr (.inr ⟨rfl, by rw [e, hl], by rw [fewQ, hq]; simp [hl]⟩)
    · cases hc : covF l k
      · exact .inr (.inl ⟨.inr (by rw [e, hl]), rfl, by rw [fewQ, hq]; simp [hc]⟩)
      · exact .inl ⟨.inr (by rw [e, hl]), rfl, by rw [fewQ, hq]; simp [hl, hc]⟩
theorem pow_small {n : Nat} (h : n ≤ 10) : 2 ^ n ≤ 1024 := Nat.pow_le_pow_right (by omega) h
theorem shl_small {n : Nat} (h : n ≤ 10) : wrap64 ((2 : Int) ^ n) = ((2 ^ n : Nat) : Int) := by
  have e : (2 : Int) ^ n = ((2 ^ n : Nat) : Int) := by simp
  have hp := pow_small h
  rw [e]
  generalize 2 ^ n = P at *
  exact IntWalk.wrap64_in _ ⟨by omega, by omega⟩
set_option maxRecDepth 4000 in
set_option maxHeartbeats 1600000 in
theorem rFewest_any (A : Option Addr) (c : Nat) (l : List Pt) (w : World) (hr : Rd w w.heap.size A (l.flatMap Pt.cells)) (hn : l.length ≤ 9223372036854775807) :
    Calls Tryd.prog 46 #[.slice A l.length c] w (MadeF w (fewL l) (fewOk l) (pipesE l)) := by
  have HR := Lib.hid hr
  have HV := Lib.hid (fun w h => rValidatePipes_any A c l w h hn)
  clear hr
  by_cases hE : pipesE l = 0
  · obtain ⟨h10, _⟩ := pipesE_zero hE
    have HFin := Lib.hid (few_same hE)
    have HCo := Lib.hid (fun A2 c2 n w h g => rcovers_mem A A2 c c2 l n w h g hE)
    have HCa := Lib.hid (fun k hk => fewQ_cases l k hk (by omega))
    have HLe := Lib.hid (fun (n k : Nat) => listK_le (Nat.testBit n) k)
    have HKY := Lib.hid (fun n k h => listK_yes (f := Nat.testBit n) (k := k) h)
    have HKN := Lib.hid (fun n k h => listK_no (f := Nat.testBit n) (k := k) h)
    have HSh := Lib.hid (fun n i h => shr_bit n i h)
    have HFi := Lib.hid (fun A1 A2 c1 c2 L1 L2 w r1 r2 h1 h2 => first_any A1 A2 c1 c2 L1 L2 w r1 r2 h1 h2)
    have HBl := Lib.hid (fun q => show (bestOf l q).length ≤ 10 from by
      cases q with
      | none => exact Nat.zero_le _
      | some b => exact Nat.le_trans (listK_le _ _) h10)
    have hpow := pow_small h10
    have HSl := Lib.hid (shl_small h10)
    have HQ0 := Lib.hid (show fewQ l 0 = none from rfl)
    rw [hE] at HV ⊢
    clear hE
    obtain ⟨V, hV⟩ : ∃ V, 2 ^ l.length = V := ⟨_, rfl⟩
    rw [hV] at HFin HCa hpow HSl
    have HVv := Lib.hid hV
    clear hV
    go_enter Tryd.func46, Tryd.ntmps46
    go_wp2_with fail
    refine (HV.out w HR.out).mono ?_
    rintro e w1 ⟨rfl, hb⟩
    have B1 := Lib.hid hb
    have R1 := Lib.hid ((HR.out.below hb (Nat.le_refl _)).more hb.size)
    clear hb
    go_wp2_with fail
    go_loopw [6, 7, 8] (fun bv fv nv wr => ∃ (k : Nat) (A9 : Option Addr) (c9 : Nat), k ≤ V ∧ nv = .int .i64 k ∧ fv = .bool (foundOf (fewQ l k)) ∧ bv = .slice A9 (bestOf l (fewQ l k)).length c9 ∧ (bestOf l (fewQ l k)).length ≤ c9 ∧ Rd wr wr.heap.size A9 (ints (bestOf l (fewQ l k))) ∧ Below w1.heap.size w1 wr) (fun _ _ nv _ => V - (intOf nv).toNat)
    case atStart => exact ⟨0, none, 0, by omega, rfl, by rw [HQ0.out]; rfl, by rw [HQ0.out]; rfl, by rw [HQ0.out]; exact Nat.le_refl _, by rw [HQ0.out]; exact .inl rfl, Below.refl _ _⟩
    case round =>
      obtain ⟨k, A9, c9, hk, rfl, rfl, rfl, hc9, hr9, hb⟩ := hrel
      have R9 := Lib.hid hr9
      have HC9 := Lib.hid hc9
      have BW := Lib.hid hb
      have RW := Lib.hid ((R1.out.below hb (Nat.le_refl _)).more hb.size)
      clear hb hr9 hc9
      obtain ⟨wo, rfl⟩ : ∃ wo : World, wo = wr := ⟨_, rfl⟩
      obtain ⟨Q, hQ⟩ : ∃ Q, fewQ l k = Q := ⟨_, rfl⟩
      have HQk := Lib.hid hQ
      rw [hQ] at R9 HC9 ⊢
      have hQl := HBl.out Q
      by_cases hlk : k < V
      · have HCak := HCa.out k hlk
        rw [hQ] at HCak
        have HCk := Lib.hid HCak
        clear HCak hQ
        have ek : decide ((k : Int) < wrap64 (2 ^ l.length)) = true := by rw [HSl.out]; simp; omega
        go_wp2_with fail
        clear ek
        go_loopw [9, 10] (fun v i wr => ∃ (j : Nat) (A7 : Option Addr) (c7 : Nat), j ≤ l.length ∧ i = .int .i64 j ∧ v = .slice A7 (listK k.testBit j).length c7 ∧ wr.ownsRow wo.heap.size 3 1 v (listK k.testBit j).length (ints (listK k.testBit j)) ∧ Below wo.heap.size wo wr) (fun _ i _ => l.length - (intOf i).toNat)
        case atStart => exact ⟨0, none, 0, by omega, rfl, rfl, World.ownsRow_nil _ _ _ _, Below.refl _ _⟩
        case round =>
          obtain ⟨j, A7, c7, hj, rfl, rfl, hown, hb⟩ := hrel
          have O := Lib.hid hown
          have BV := Lib.hid hb
          clear hown hb
          have hlj := HLe.out k j
          by_cases hlt2 : j < l.length
          · have hsh := HSh.out k j (by omega)
            cases hq : k.testBit j
            · have HS := Lib.hid (HKN.out k j hq)
              rw [hq] at hsh
              clear hq
              generalize listK k.testBit j = L at *
              go_wp2_with fail
              go_roundw
              case rel => exact ⟨j + 1, A7, c7, by omega, by go_num, by rw [HS.out], by rw [HS.out]; exact O.out, BV.out⟩
              case measure => simp [intOf]; omega
            · have HS := Lib.hid (HKY.out k j hq)
              rw [hq] at hsh
              clear hq
              generalize listK k.testBit j = L at *
              go_wp2_with (at_builtin; refine app Tryd.eInt rfl _ _ rfl rfl (O.out.alloc _) (BV.out.alloc BV.out.size _) (size_alloc' BV.out.size _) rfl (Rd.one wr (.int .i64 j) 3 (Nat.lt_succ_self _)) (by simp) (ints_one [(j : Int)]) (L.length + 1) rfl (by omega) ?_; intro A4 c4 w4 o4 b4 _ _; have O4 := Lib.hid o4; have B4 := Lib.hid b4; clear o4 b4)
              go_roundw
              case rel => exact ⟨j + 1, A4, c4, by omega, by go_num, by rw [HS.out, List.length_append]; rfl, by rw [HS.out, ints_append, List.length_append]; exact O4.out, B4.out⟩
              case measure => simp [intOf]; omega
          · obtain rfl : j = l.length := by omega
            have RC := Lib.hid (Rd.of_own O.out)
            have RB := Lib.hid ((R9.out.below BV.out (Nat.le_refl _)).more BV.out.size)
            have RL := Lib.hid ((RW.out.below BV.out (Nat.le_refl _)).more BV.out.size)
            have BB := Lib.hid (BW.out.trans (BV.out.mono BW.out.size))
            have hc7 : (listK k.testBit l.length).length ≤ c7 := by
              have hown := O.out
              obtain ⟨A8, c8, he, hc8⟩ := own_form hown
              injection he with h1 h2 h3
              omega
            have HC7 := Lib.hid hc7
            clear hc7
            have HFk := Lib.hid (fun w r1 r2 => HFi.out A7 A9 c7 c9 (listK k.testBit l.length) (bestOf l Q) w r1 r2 (by omega) (by omega))
            have HCk2 := Lib.hid (fun w h g => HCo.out A7 c7 k w h g)
            rcases HCk.out with ⟨h1, h2, h3⟩ | ⟨h1, h2, h3⟩ | ⟨h1, h2, h3⟩
            · -- a new one
              have H3 := Lib.hid h3
              rw [h2] at HCk2
              clear h2 h3
              cases hf : foundOf Q
              · clear h1
                go_wp2_with fail
                refine (HCk2.out wr RL.out RC.out).mono ?_
                rintro e w5 ⟨rfl, hb⟩
                have B5 := Lib.hid (BB.out.trans (hb.mono BB.out.size))
                have RC5 := Lib.hid ((RC.out.below hb (Nat.le_refl _)).more hb.size)
                clear hb
                go_wp2_with fail
                go_roundw
                case rel => exact ⟨k + 1, A7, c7, by omega, by go_num, by rw [H3.out]; rfl, by rw [H3.out]; rfl, by rw [H3.out]; exact HC7.out, by rw [H3.out]; exact RC5.out, B5.out⟩
                case measure => simp [intOf]; omega
              · have hfb : firstB (listK k.testBit l.length) (bestOf l Q) = true := by
                  rcases h1 with h | h
                  · rw [hf] at h; cases h
                  · exact h
                rw [hfb] at HFk
                clear h1 hfb
                go_wp2_with fail
                refine (HFk.out wr RC.out RB.out).mono ?_
                rintro e w' ⟨rfl, m, rfl⟩
                go_wp2_with fail
                refine (HCk2.out (wr.drewN m) (RL.out.below (below_drewN (Below.refl wr.heap.size wr) m) (Nat.le_refl _)) (RC.out.below (below_drewN (Below.refl wr.heap.size wr) m) (Nat.le_refl _))).mono ?_
                rintro e w5 ⟨rfl, hb⟩
                have hb2 := (below_drewN (Below.refl wr.heap.size wr) m).trans hb
                have B5 := Lib.hid (BB.out.trans (hb2.mono BB.out.size))
                have RC5 := Lib.hid ((RC.out.below hb2 (Nat.le_refl _)).more hb2.size)
                clear hb hb2
                go_wp2_with fail
                go_roundw
                case rel => exact ⟨k + 1, A7, c7, by omega, by go_num, by rw [H3.out]; rfl, by rw [H3.out]; rfl, by rw [H3.out]; exact HC7.out, by rw [H3.out]; exact RC5.out, B5.out⟩
                case measure => simp [intOf]; omega
            · have H3 := Lib.hid h3
              rw [h2] at HCk2
              clear h2 h3
              cases hf : foundOf Q
              · have HF0 := Lib.hid hf
                clear h1
                go_wp2_with fail
                refine (HCk2.out wr RL.out RC.out).mono ?_
                rintro e w5 ⟨rfl, hb⟩
                have B5 := Lib.hid (BB.out.trans (hb.mono BB.out.size))
                have RB5 := Lib.hid ((RB.out.below hb (Nat.le_refl _)).more hb.size)
                clear hb hf
                go_wp2_with fail
                go_roundw
                case rel => exact ⟨k + 1, A9, c9, by omega, by go_num, by rw [H3.out, HF0.out], by rw [H3.out], by rw [H3.out]; exact HC9.out, by rw [H3.out]; exact RB5.out, B5.out⟩
                case measure => simp [intOf]; omega
              · have hfb : firstB (listK k.testBit l.length) (bestOf l Q) = true := by
                  rcases h1 with h | h
                  · rw [hf] at h; cases h
                  · exact h
                have HF0 := Lib.hid hf
                rw [hfb] at HFk
                clear h1 hfb
                go_wp2_with fail
                refine (HFk.out wr RC.out RB.out).mono ?_
                rintro e w' ⟨rfl, m, rfl⟩
                go_wp2_with fail
                refine (HCk2.out (wr.drewN m) (RL.out.below (below_drewN (Below.refl wr.heap.size wr) m) (Nat.le_refl _)) (RC.out.below (below_drewN (Below.refl wr.heap.size wr) m) (Nat.le_refl _))).mono ?_
                rintro e w5 ⟨rfl, hb⟩
                have hb2 := (below_drewN (Below.refl wr.heap.size wr) m).trans hb
                have B5 := Lib.hid (BB.out.trans (hb2.mono BB.out.size))
                have RB5 := Lib.hid ((RB.out.below hb2 (Nat.le_refl _)).more hb2.size)
                clear hb hb2 hf
                go_wp2_with fail
                go_roundw
                case rel => exact ⟨k + 1, A9, c9, by omega, by go_num, by rw [H3.out, HF0.out], by rw [H3.out], by rw [H3.out]; exact HC9.out, by rw [H3.out]; exact RB5.out, B5.out⟩
                case measure => simp [intOf]; omega
            · have H3 := Lib.hid h3
              have HF0 := Lib.hid h1
              rw [h2] at HFk
              clear h2 h3
              go_wp2_with fail
              refine (HFk.out wr RC.out RB.out).mono ?_
              rintro e w' ⟨rfl, m, rfl⟩
              have B5 := Lib.hid (below_drewN BB.out m)
              clear h1
              go_wp2_with fail
              go_roundw
              case rel => exact ⟨k + 1, A9, c9, by omega, by go_num, by rw [H3.out, HF0.out], by rw [H3.out], by rw [H3.out]; exact HC9.out, by rw [H3.out]; exact RB.out, B5.out⟩
              case measure => simp [intOf]; omega
      · obtain rfl : k = V := by omega
        have ek : decide ((k : Int) < wrap64 (2 ^ l.length)) = false := by rw [HSl.out]; simp
        have BB := Lib.hid (B1.out.trans (BW.out.mono B1.out.size))
        have HF2 := HFin.out
        rw [hQ] at HF2
        have hbits : ∀ b, b < k → listB (Nat.testBit b) = listK (Nat.testBit b) l.length := fun b hb => listB_small (by rw [HVv.out]; exact hb) (by omega)
        rcases HF2 with ⟨h1, h2⟩ | ⟨b, h1, h2, h3, h4⟩
        · have e2 : fewL l = [] := by unfold fewL; rw [h2]; rfl
          have E2 := Lib.hid e2
          have EO := Lib.hid h2
          subst h1
          clear h2 e2 hQ hbits
          go_wp2_with fail
          go_ret3
          rw [E2.out, EO.out]
          exact ⟨A9, c9, rfl, Nat.zero_le _, R9.out, BB.out⟩
        · have E2 := Lib.hid (h4.trans (hbits b h3))
          have EO := Lib.hid h2
          subst h1
          clear h2 h4 h3 hQ hbits
          go_wp2_with fail
          go_ret3
          rw [E2.out, EO.out]
          exact ⟨A9, c9, rfl, HC9.out, R9.out, BB.out⟩
  · obtain ⟨e1, e2⟩ := fewE_bad hE
    rw [e1, e2]
    generalize pipesE l = E at *
    have hb1 : (E == 0) = false := by simpa using hE
    have hb2 : (E != 0) = true := by simpa using hE
    clear hE e1 e2
    go_enter Tryd.func46, Tryd.ntmps46
    go_wp2_with fail
    refine (HV.out w HR.out).mono ?_
    rintro e w1 ⟨rfl, hb⟩
    have B1 := Lib.hid hb
    clear hb
    go_wp2_with fail
    go_ret3
    exact ⟨none, 0, rfl, by decide, .inl rfl, B1.out⟩
end Go.Proofs.YtnnlbllkckakbaaDoor

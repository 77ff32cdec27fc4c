/-
  The walks of Fewest of package wind, of first and Fewest of the reference. No condition.
-/
import Derived.Test.YtfokmgogbjifbaaWb4
namespace Go.Proofs.Ytfokmgogbjifbaa
open Go.RowKit
set_option linter.unusedVariables false

def MadeF (w : World) (L : List Int) (b : Bool) (E : Int) (e : Ending) (w' : World) : Prop := ∃ A c, e = .returned (.tuple #[.slice A L.length c, .bool b, .int .i64 E]) ∧ L.length ≤ c ∧ Rd w' w'.heap.size A (ints L) ∧ Below w.heap.size w w'
theorem covF_print (l : List Pt) (n : Nat) : (((covN l n.testBit : Nat) : Int) == 4294967295) = covF l n := by
  unfold covF
  cases hb : decide (covN l n.testBit = 4294967295)
  · have : ¬ covN l n.testBit = 4294967295 := of_decide_eq_false hb
    exact beq_eq_false_iff_ne.2 (by omega)
  · have : covN l n.testBit = 4294967295 := of_decide_eq_true hb
    exact beq_iff_eq.2 (by omega)
theorem fewE_bad {l : List Pt} (h : ¬ pipesE l = 0) : fewOk l = false ∧ fewL l = [] := by
  have e : fewOk l = false := by unfold fewOk; rw [decide_eq_false h]; rfl
  exact ⟨e, by unfold fewL; rw [e]; rfl⟩
set_option maxRecDepth 4000 in
set_option maxHeartbeats 800000 in
theorem Fewest_any (A : Option Addr) (c : Nat) (l : List Pt) (w : World) (hr : Rd w w.heap.size A (l.flatMap Pt.cells)) (hn : l.length ≤ 9223372036854775807) :
    Calls Try.prog 7 #[.slice A l.length c] w (MadeF w (fewL l) (fewOk l) (pipesE l)) := by
  have HR := Lib.hid hr
  have HV := Lib.hid (fun w h => ValidatePipes_any A c l w h hn)
  clear hr
  by_cases hE : pipesE l = 0
  · obtain ⟨h10, _⟩ := pipesE_zero hE
    have HP := Lib.hid (fun w => everyPipe_any A c l.length w h10)
    have hlt := every_lt h10
    have HC := Lib.hid (fun n w h (g : n < 4294967296) => covered_any A c l n w h hE g)
    have HCP := Lib.hid (fun n => covF_print l n)
    have HCL := Lib.hid (fun n => covN_lt l (Nat.testBit n))
    have HY := Lib.hid (fun k h => fewP_yes (l := l) (k := k) h)
    have HN := Lib.hid (fun k h => fewP_no (l := l) (k := k) h)
    have HLt := Lib.hid (fun k h => fewP_lt (l := l) (k := k) h)
    have HP0 := Lib.hid (show fewP l 0 = 2 ^ l.length - 1 from rfl)
    cases hall : covF l (2 ^ l.length - 1)
    · have e1 : fewOk l = false := by unfold fewOk; rw [hall, Bool.and_false]
      have e2 : fewL l = [] := by unfold fewL; rw [e1]; rfl
      have hcp := HCP.out (2 ^ l.length - 1)
      rw [hall] at hcp
      have hcn : (((covN l (2 ^ l.length - 1).testBit : Nat) : Int) != 4294967295) = true := by
        have := beq_eq_false_iff_ne.1 hcp
        simpa using this
      rw [e1, e2, hE]
      rw [hE] at HV
      have HC1 := Lib.hid (fun w h => HC.out (2 ^ l.length - 1) w h hlt)
      have hcl := HCL.out (2 ^ l.length - 1)
      clear hE hall e1 e2 HC HCP HCL HY HN HLt HP0
      generalize covN l (2 ^ l.length - 1).testBit = CC at *
      generalize 2 ^ l.length - 1 = V at *
      go_enter Try.func7, Try.ntmps7
      go_wp2_with fail
      refine (HV.out w HR.out).mono ?_
      rintro e w1 ⟨rfl, hb⟩
      have B1 := Lib.hid hb
      have R1 := Lib.hid ((HR.out.below hb (Nat.le_refl _)).more hb.size)
      clear hb
      go_wp2_with fail
      refine (HP.out w1).mono ?_
      rintro e w' ⟨rfl, rfl⟩
      go_wp2_with fail
      refine (HC1.out w1 R1.out).mono ?_
      rintro e w2 ⟨rfl, hb⟩
      have B2 := Lib.hid (B1.out.trans (hb.mono B1.out.size))
      clear hb
      go_wp2_with fail
      go_ret3
      exact ⟨none, 0, rfl, by decide, .inl rfl, B2.out⟩
    · have e1 : fewOk l = true := by unfold fewOk; rw [hE, hall]; rfl
      have e2 : fewL l = listB (fewP l (2 ^ l.length - 1)).testBit := by unfold fewL; rw [if_pos e1]
      have hcp := HCP.out (2 ^ l.length - 1)
      rw [hall] at hcp
      have hcn : (((covN l (2 ^ l.length - 1).testBit : Nat) : Int) != 4294967295) = false := by
        have := beq_iff_eq.1 hcp
        simpa using this
      rw [e1, e2, hE]
      rw [hE] at HV
      have HC1 := Lib.hid (fun w h => HC.out (2 ^ l.length - 1) w h hlt)
      have hcl := HCL.out (2 ^ l.length - 1)
      have HL := Lib.hid (fun x w h => list_any x w h)
      have HCF := Lib.hid (fun x y w h g => compareFew_any x y w h g)
      clear hE hall e1 e2
      obtain ⟨P, hP⟩ : ∃ P, fewP l = P := ⟨_, rfl⟩
      rw [hP] at HP0 ⊢
      simp only [hP] at HY HN HLt
      clear hP
      generalize covN l (2 ^ l.length - 1).testBit = CC at *
      generalize 2 ^ l.length - 1 = V at *
      go_enter Try.func7, Try.ntmps7
      go_wp2_with fail
      refine (HV.out w HR.out).mono ?_
      rintro e w1 ⟨rfl, hb⟩
      have B1 := Lib.hid hb
      have R1 := Lib.hid ((HR.out.below hb (Nat.le_refl _)).more hb.size)
      clear hb
      go_wp2_with fail
      refine (HP.out w1).mono ?_
      rintro e w' ⟨rfl, rfl⟩
      go_wp2_with fail
      refine (HC1.out w1 R1.out).mono ?_
      rintro e w2 ⟨rfl, hb⟩
      have B2 := Lib.hid (B1.out.trans (hb.mono B1.out.size))
      have R2 := Lib.hid ((R1.out.below hb (Nat.le_refl _)).more hb.size)
      clear hb
      go_wp2_with fail
      refine (HP.out w2).mono ?_
      rintro e w' ⟨rfl, rfl⟩
      go_wp2_with fail
      clear hcp hcn hcl
      go_loopw [6, 21] (fun v i wr => ∃ k : Nat, k ≤ V ∧ i = .int .u32 k ∧ v = .int .u32 (P k : Nat) ∧ Below w2.heap.size w2 wr) (fun _ i _ => V - (intOf i).toNat)
      case atStart => exact ⟨0, by omega, rfl, by rw [HP0.out], Below.refl _ _⟩
      case round =>
        obtain ⟨k, hk, rfl, rfl, hb⟩ := hrel
        have BW := Lib.hid hb
        have RW := Lib.hid ((R2.out.below hb (Nat.le_refl _)).more hb.size)
        clear hb
        by_cases hlk : k < V
        · have hpl := HLt.out k (by omega)
          have HC2 := Lib.hid (fun w h => HC.out k w h (by omega))
          have hcpk := HCP.out k
          have hclk := HCL.out k
          have hyk := HY.out k
          have hnk := HN.out k
          have HCFk := Lib.hid (fun w => HCF.out k (P k) w (by omega) (by omega))
          have hlk' : (k : Int) < (V : Int) := by omega
          cases hc : covF l k
          · rw [hc] at hcpk
            have HS := Lib.hid (hnk (by rw [hc]; rfl))
            clear hc hyk hnk
            generalize covN l k.testBit = D at *
            generalize P k = pk at *
            go_wp2_with fail
            refine (HC2.out wr RW.out).mono ?_
            rintro e w4 ⟨rfl, hb⟩
            have B4 := Lib.hid (BW.out.trans (hb.mono BW.out.size))
            clear hb
            go_wp2_with fail
            go_roundw
            case rel => exact ⟨k + 1, by omega, by go_num, by rw [HS.out], B4.out⟩
            case measure => simp [intOf]; omega
          · rw [hc] at hcpk
            cases hl2 : ltF k (P k)
            · have HS := Lib.hid (hnk (by rw [hc, hl2]; rfl))
              have hcf : decide (cfI (listB k.testBit) (listB (P k).testBit) < 0) = false := hl2
              clear hc hyk hnk hl2
              generalize cfI (listB k.testBit) (listB (P k).testBit) = F at *
              generalize covN l k.testBit = D at *
              generalize P k = pk at *
              go_wp2_with fail
              refine (HC2.out wr RW.out).mono ?_
              rintro e w4 ⟨rfl, hb⟩
              have B4 := Lib.hid (BW.out.trans (hb.mono BW.out.size))
              clear hb
              go_wp2_with fail
              refine (HCFk.out w4).mono ?_
              rintro e w5 ⟨rfl, hb⟩
              have B5 := Lib.hid (B4.out.trans (hb.mono B4.out.size))
              clear hb
              go_wp2_with fail
              go_roundw
              case rel => exact ⟨k + 1, by omega, by go_num, by rw [HS.out], B5.out⟩
              case measure => simp [intOf]; omega
            · have HS := Lib.hid (hyk (by rw [hc, hl2]; rfl))
              have hcf : decide (cfI (listB k.testBit) (listB (P k).testBit) < 0) = true := hl2
              clear hc hyk hnk hl2
              generalize cfI (listB k.testBit) (listB (P k).testBit) = F at *
              generalize covN l k.testBit = D at *
              generalize P k = pk at *
              go_wp2_with fail
              refine (HC2.out wr RW.out).mono ?_
              rintro e w4 ⟨rfl, hb⟩
              have B4 := Lib.hid (BW.out.trans (hb.mono BW.out.size))
              clear hb
              go_wp2_with fail
              refine (HCFk.out w4).mono ?_
              rintro e w5 ⟨rfl, hb⟩
              have B5 := Lib.hid (B4.out.trans (hb.mono B4.out.size))
              clear hb
              go_wp2_with fail
              go_roundw
              case rel => exact ⟨k + 1, by omega, by go_num, by rw [HS.out], B5.out⟩
              case measure => simp [intOf]; omega
        · obtain rfl : k = V := by omega
          have hpl := HLt.out k (Nat.le_refl _)
          have HLk := Lib.hid (fun w => HL.out (P k) w (by omega))
          unfold hasV at HLk
          have BB := Lib.hid (B2.out.trans (BW.out.mono B2.out.size))
          generalize P k = pk at *
          go_wp2_with fail
          refine (HLk.out wr).mono ?_
          rintro e w6 ⟨A6, c6, rfl, hc6, hr6, hb6⟩
          go_wp2_with fail
          go_ret3
          exact ⟨A6, c6, rfl, hc6, hr6, BB.out.trans (hb6.mono BB.out.size)⟩
  · obtain ⟨e1, e2⟩ := fewE_bad hE
    rw [e1, e2]
    generalize pipesE l = E at *
    have hb1 : (E == 0) = false := by simpa using hE
    have hb2 : (E != 0) = true := by simpa using hE
    clear hE e1 e2
    go_enter Try.func7, Try.ntmps7
    go_wp2_with fail
    refine (HV.out w HR.out).mono ?_
    rintro e w1 ⟨rfl, hb⟩
    have B1 := Lib.hid hb
    clear hb
    go_wp2_with fail
    go_ret3
    exact ⟨none, 0, rfl, by decide, .inl rfl, B1.out⟩
theorem cfI_first {A B : List Int} : decide (cfI A B < 0) = (if A.length = B.length then decide (lexC A B < 0) else decide (A.length < B.length)) := by
  by_cases h : A.length = B.length
  · rw [if_pos h, cfI_same h]
  · rw [if_neg h]
    rcases Nat.lt_or_ge A.length B.length with h1 | h1
    · rw [cfI_lt h1, decide_eq_true h1]; rfl
    · rw [cfI_gt (by omega), decide_eq_false (show ¬ A.length < B.length by omega)]; rfl
def firstB (A B : List Int) : Bool := decide (cfI A B < 0)
theorem shr_bit (n i : Nat) (hn : n < 9223372036854775808) : (bits .and .i64 ((n : Int) / 2 ^ i) 1 == 1) = n.testBit i := by
  have h := bit_div (n := n) (j := i)
  have e : (n : Int) / 2 ^ i = ((n / 2 ^ i : Nat) : Int) := by simp
  have hd : n / 2 ^ i ≤ n := Nat.div_le_self _ _
  rw [e, show (1 : Int) = ((1 : Nat) : Int) from rfl, i64_and_nat _ _ (by omega) (by decide), Nat.and_one_is_mod, h]
  cases n.testBit i <;> rfl
/-- What the reference has found so far. -/
def bestOf (l : List Pt) : Option Nat → List Int
  | none => []
  | some b => listK (Nat.testBit b) l.length
def foundOf : Option Nat → Bool
  | none => false
  | some _ => true
theorem fewQ_cases (l : List Pt) (k : Nat) (hk : k < 2 ^ l.length) (h32 : l.length ≤ 32) :
    ((foundOf (fewQ l k) = false ∨ firstB (listK k.testBit l.length) (bestOf l (fewQ l k)) = true) ∧ covF l k = true ∧ fewQ l (k + 1) = some k) ∨
    ((foundOf (fewQ l k) = false ∨ firstB (listK k.testBit l.length) (bestOf l (fewQ l k)) = true) ∧ covF l k = false ∧ fewQ l (k + 1) = fewQ l k) ∨
    (foundOf (fewQ l k) = true ∧ firstB (listK k.testBit l.length) (bestOf l (fewQ l k)) = false ∧ fewQ l (k + 1) = fewQ l k) := by
  cases hq : fewQ l k with
  | none =>
    cases hc : covF l k
    · exact .inr (.inl ⟨.inl rfl, rfl, by rw [fewQ, hq]; simp [hc]⟩)
    · exact .inl ⟨.inl rfl, rfl, by rw [fewQ, hq]; simp [hc]⟩
  | some b =>
    have hb := ((fewQ_min l k).2 b hq).1
    have e : firstB (listK k.testBit l.length) (bestOf l (some b)) = ltF k b := by
      unfold firstB ltF bestOf
      rw [listB_small hk h32, listB_small (show b < 2 ^ l.length by omega) h32]
    cases hl : ltF k b
    · exact .inr (.inr ⟨rfl, by rw [e, hl], by rw [fewQ, hq]; simp [hl]⟩)
    · cases hc : covF l k
      · exact .inr (.inl ⟨.inr (by rw [e, hl]), rfl, by rw [fewQ, hq]; simp [hc]⟩)
      · exact .inl ⟨.inr (by rw [e, hl]), rfl, by rw [fewQ, hq]; simp [hl, hc]⟩
theorem pow_small {n : Nat} (h : n ≤ 10) : 2 ^ n ≤ 1024 := Nat.pow_le_pow_right (by omega) h
theorem shl_small {n : Nat} (h : n ≤ 10) : wrap64 ((2 : Int) ^ n) = ((2 ^ n : Nat) : Int) := by
  have e : (2 : Int) ^ n = ((2 ^ n : Nat) : Int) := by simp
  have hp := pow_small h
  rw [e]
  generalize 2 ^ n = P at *
  exact IntWalk.wrap64_in _ ⟨by omega, by omega⟩
end Go.Proofs.Ytfokmgogbjifbaa

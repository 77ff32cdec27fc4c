/-
  WhistleLengths: the walk. Condition: the lengths can be read.
-/
import Derived.Test.YtjongjndoaojnaaLn3
import Derived.Test.YtjongjndoaojnaaLwCodes
namespace Go.Proofs.Ytjongjndoaojnaa
open Go.RowKit
set_option linter.unusedVariables false

theorem rat_eq (a b : Int) (W : World) : (binOp .eql 44 (.agg #[.int .i64 a, .int .i64 b]) (.agg #[.int .i64 a, .int .i64 b])).run Try.prog W = .ok (.bool true) W := by
  rw [run_eql_struct, rat_in]
  rfl
theorem from_zero {L : List Int} (h : fromE L = 0) : lenB L = true ∧ fil L ≤ 4096 ∧ fromL L = codL L := by
  unfold fromE at h
  by_cases h1 : lenB L = true
  · rw [if_pos h1] at h
    by_cases h2 : 4096 < fil L
    · rw [if_pos h2] at h; cases h
    · exact ⟨h1, by omega, by unfold fromL; rw [if_pos (by unfold fromE; rw [if_pos h1, if_neg h2])]⟩
  · rw [if_neg h1] at h; cases h
set_option maxRecDepth 8000 in
set_option maxHeartbeats 4000000 in
theorem Lengths_walk (A : Option Addr) (c : Nat) (L : List Int) (w : World) (hr : Rd w w.heap.size A (ints L)) (hl : L.length ≤ c) (hc : c ≤ maxLen) :
    Calls Try.prog 12 #[.slice A L.length c] w fun e w' => e = .returned (.bool true) ∧ Below w.heap.size w w' := by
  have hl' : L.length ≤ 9223372036854775807 := by unfold maxLen at hc; omega
  have HR := Lib.hid hr
  have HKN := Lib.hid known_any
  clear hr
  by_cases h60 : 60 < L.length
  · have e1 : decide ((60 : Int) < (L.length : Int)) = true := by simp; omega
    have e2 : decide (60 < L.length) = true := by simpa using h60
    clear h60
    go_enter Try.func12, Try.ntmps12
    go_wp2_with fail
    refine (HKN.out w).mono ?_
    rintro e w8 ⟨rfl, hb⟩
    go_wp2_with fail
    go_ret
    exact ⟨rfl, hb⟩
  · have e1 : decide ((60 : Int) < (L.length : Int)) = false := by simp; omega
    have e2 : decide (60 < L.length) = false := by simpa using h60
    have H1 := Lib.hid (fun w h => FromLengths_any A c L w h hl')
    have H2 := Lib.hid (fun w h => rFromLengths_any A c L w h hl')
    have H3 := Lib.hid (fun w h => Fill_any A c L w h hl')
    have H4 := Lib.hid (fun w h => rFill_any A c L w h hl')
    unfold FillPost at H3 H4
    have HFZ := Lib.hid (fun h => from_zero (L := L) h)
    obtain ⟨k1, hk1⟩ : ∃ x, x = (fillR L).1 := ⟨_, rfl⟩
    obtain ⟨k2, hk2⟩ : ∃ x, x = (fillR L).2 := ⟨_, rfl⟩
    have HK := Lib.hid (And.intro hk1 hk2)
    rw [← hk1, ← hk2] at H3 H4
    clear hk1 hk2 h60
    go_enter Try.func12, Try.ntmps12
    go_wp2_with fail
    refine (H1.out w HR.out).mono ?_
    rintro e w1 ⟨A1, c1, rfl, hl1, hc1, hr1, hb⟩
    have B1 := Lib.hid hb
    have R1 := Lib.hid (HR.out.go (B0 := 0) hb)
    have P1 := Lib.hid hr1
    clear hb hr1
    go_wp2_with fail
    refine (H2.out w1 R1.out).mono ?_
    rintro e w2 ⟨A2, c2, rfl, hl2, hc2, hr2, hb⟩
    have B2 := Lib.hid (B1.out.trans (hb.mono B1.out.size))
    have R2 := Lib.hid (R1.out.go (B0 := 0) hb)
    have P2 := Lib.hid (P1.out.go (B0 := 0) hb)
    have Q2 := Lib.hid hr2
    clear hb hr2
    go_wp2_with fail
    refine (H3.out w2 R2.out).mono ?_
    rintro e w3 ⟨rfl, hb⟩
    obtain ⟨W3, hW3, hg3, hs3, hb3⟩ := one_blk w3 #[.int .i64 (k1 : Int), .int .i64 (k2 : Int)] 44
    have B3 := Lib.hid ((B2.out.trans (hb.mono B2.out.size)).trans (hb3.mono (Nat.le_trans B2.out.size hb.size)))
    have R3 := Lib.hid ((R2.out.go (B0 := 0) hb).go (B0 := 0) hb3)
    have P3 := Lib.hid ((P2.out.go (B0 := 0) hb).go (B0 := 0) hb3)
    have Q3 := Lib.hid ((Q2.out.go (B0 := 0) hb).go (B0 := 0) hb3)
    have G3 := Lib.hid hg3
    have HW3 := Lib.hid hW3
    clear hb hW3 hg3 hs3 hb3
    go_wp2_with fail
    rw [HW3.out]
    refine (H4.out W3 R3.out).mono ?_
    rintro e w4 ⟨rfl, hb⟩
    obtain ⟨W4, hW4, hg4, hs4, hb4⟩ := one_blk w4 #[.int .i64 (k1 : Int), .int .i64 (k2 : Int)] 44
    have B4 := Lib.hid ((B3.out.trans (hb.mono B3.out.size)).trans (hb4.mono (Nat.le_trans B3.out.size hb.size)))
    have R4 := Lib.hid ((R3.out.go (B0 := 0) hb).go (B0 := 0) hb4)
    have P4 := Lib.hid ((P3.out.go (B0 := 0) hb).go (B0 := 0) hb4)
    have Q4 := Lib.hid ((Q3.out.go (B0 := 0) hb).go (B0 := 0) hb4)
    have g5 := (hb.block _ (lt_of_block G3.out)).trans G3.out
    have G4 := Lib.hid ((hb4.block _ (lt_of_block g5)).trans g5)
    have K4 := Lib.hid hg4
    have HW4 := Lib.hid hW4
    clear hb hW4 hg4 hs4 hb4 g5
    have hfl : (fromL L).length ≤ 9223372036854775807 := by omega
    have HSA := Lib.hid (Same_self A1 A2 c1 c2 (fromL L) W4 P4.out Q4.out hfl)
    have q1 := fun W => rat_in (k1 : Int) (k2 : Int) W
    have q2 := fun W => rat_ne (k1 : Int) (k2 : Int) W
    have q3 := guard_rat
    have q4 := fun W => rat_eq (k1 : Int) (k2 : Int) W
    have e3 : (fromE L != fromE L) = false := by simp
    have e4 : (lokE L != lokE L) = false := by simp
    go_wp2_with fail
    rw [HW4.out]
    refine HSA.out.mono ?_
    rintro e w5 ⟨rfl, hb⟩
    have B5 := Lib.hid (B4.out.trans (hb.mono B4.out.size))
    have R5 := Lib.hid (R4.out.go (B0 := 0) hb)
    have P5 := Lib.hid (P4.out.go (B0 := 0) hb)
    have G5 := Lib.hid ((hb.block _ (lt_of_block G4.out)).trans G4.out)
    have K5 := Lib.hid ((hb.block _ (lt_of_block K4.out)).trans K4.out)
    have c0 := (blk_cell (j := 0) G5.out).trans (show _ = some (.int .i64 (k1 : Int)) from rfl)
    have c1' := (blk_cell (j := 1) G5.out).trans (show _ = some (.int .i64 (k2 : Int)) from rfl)
    have d0 := (blk_cell (j := 0) K5.out).trans (show _ = some (.int .i64 (k1 : Int)) from rfl)
    have d1 := (blk_cell (j := 1) K5.out).trans (show _ = some (.int .i64 (k2 : Int)) from rfl)
    clear hb
    by_cases hz : fromE L = 0
    · obtain ⟨hlb, hf4, hfc⟩ := HFZ.out hz
      obtain ⟨hp1, hp12, hlk⟩ := lenB_iff hlb
      have HV := Lib.hid (cod_vd hlb hf4)
      have HVE := Lib.hid (vE_of HV.out)
      have HPR := Lib.hid (prB_yes HVE.out (cod_pf hlk hp12 hf4))
      have HKR := Lib.hid (show kraft (codL L) = fillR L by
        unfold kraft fillR
        rw [if_pos HVE.out, cod_lens hlk, if_pos hlb])
      have HSZ := Lib.hid (show Sz (codL L) from fun s hs => by
        have := (sgB_iff.1 (HV.out.sg s hs)).2.1
        omega)
      have HLK := Lib.hid (show Lok L from hlk)
      have HCL := Lib.hid (codL_len L)
      rw [hfc] at hl1 P5
      rw [hfc]
      have HI := Lib.hid (fun w h => IsPrefix_any A1 c1 (codL L) w h HSZ.out hl1 (by omega))
      have HKF := Lib.hid (fun w h => Kraft_any A1 c1 (codL L) w h HSZ.out hl1 (by omega))
      rw [HPR.out, HVE.out] at HI
      unfold KraftPost at HKF
      rw [HVE.out, HKR.out, ← HK.out.1, ← HK.out.2] at HKF
      have e5 : (fromE L != 0) = false := by rw [hz]; rfl
      clear hz hlb hf4 hfc hlk hfl
      go_wp2_with fail
      clear c0 c1' d0 d1 q1 q2 q3
      go_loopw [11] (fun i wr => ∃ k : Nat, k ≤ (codL L).length ∧ i = .int .i64 k ∧ ∃ m, wr = w5.drewN m) (fun i _ => (codL L).length - (intOf i).toNat)
      case atStart => exact ⟨0, by omega, rfl, 0, rfl⟩
      case round =>
        obtain ⟨k, hk, rfl, m, rfl⟩ := hrel
        by_cases hlt : k < (codL L).length
        · obtain ⟨b1, o1, x, hA1, hx, hcx⟩ := P5.out.txt k hlt
          have HS := Lib.hid (cod_size HLK.out hx.out)
          obtain ⟨b2, o2, hA2, _, hcy⟩ := R5.out.at_ (ints_at HS.out)
          have h1 := Lib.hid hA1
          have h2 := Lib.hid hA2
          subst hA1 hA2
          have b0 : (0 : Int) ≤ (k : Int) := by omega
          have b1' : (k : Int) < ((codL L).length : Int) := by omega
          have b2' : (k : Int) < (L.length : Int) := by have := HCL.out; omega
          have e6 : ((x.size : Int) != (x.size : Int)) = false := by simp
          go_wp2_with fail
          go_quiet (fail)
          go_wp2_with fail
          go_roundw
          case rel => exact ⟨k + 1, by omega, by have := HCL.out; go_num, _, rfl⟩
          case measure => simp [intOf]; omega
        · have hks : k = (codL L).length := by omega
          subst hks
          have hbm : Below w5.heap.size w5 (w5.drewN m) := bdN (Below.refl _ _) m
          have B6 := Lib.hid (B5.out.trans (hbm.mono B5.out.size))
          have P6 := Lib.hid (P5.out.go (B0 := 0) hbm)
          have G6 := Lib.hid ((hbm.block _ (lt_of_block G5.out)).trans G5.out)
          clear hbm
          go_wp2_with fail
          refine (HI.out _ P6.out).mono ?_
          rintro e w7 ⟨rfl, hb⟩
          have B7 := Lib.hid (B6.out.trans (hb.mono B6.out.size))
          have P7 := Lib.hid (P6.out.go (B0 := 0) hb)
          have G7 := Lib.hid ((hb.block _ (lt_of_block G6.out)).trans G6.out)
          clear hb
          go_wp2_with fail
          refine (HKF.out w7 P7.out).mono ?_
          rintro e w8 ⟨rfl, hb⟩
          obtain ⟨W8, hW8, hg8, hs8, hb8⟩ := one_blk w8 #[.int .i64 (k1 : Int), .int .i64 (k2 : Int)] 44
          have B8 := Lib.hid ((B7.out.trans (hb.mono B7.out.size)).trans (hb8.mono (Nat.le_trans B7.out.size hb.size)))
          have g9 := (hb.block _ (lt_of_block G7.out)).trans G7.out
          have G8 := (hb8.block _ (lt_of_block g9)).trans g9
          have HW8 := Lib.hid hW8
          have c0 := (blk_cell (j := 0) G8).trans (show _ = some (.int .i64 (k1 : Int)) from rfl)
          have c1' := (blk_cell (j := 1) G8).trans (show _ = some (.int .i64 (k2 : Int)) from rfl)
          have d0 := (blk_cell (j := 0) hg8).trans (show _ = some (.int .i64 (k1 : Int)) from rfl)
          have d1 := (blk_cell (j := 1) hg8).trans (show _ = some (.int .i64 (k2 : Int)) from rfl)
          have HKK := Lib.hid (HKN.out W8)
          have q1 := fun W => rat_in (k1 : Int) (k2 : Int) W
          have q3 := guard_rat
          rw [← hW8] at c0 c1' d0 d1
          clear hb hW8 hg8 hs8 hb8 g9 G8
          go_wp2_with fail
          rw [HW8.out]
          refine HKK.out.mono ?_
          rintro e w9 ⟨rfl, hb⟩
          have B9 := Lib.hid (B8.out.trans (hb.mono B8.out.size))
          clear hb
          go_wp2_with fail
          go_ret
          exact ⟨rfl, B9.out⟩
    · have e5 : (fromE L != 0) = true := by simpa using hz
      clear hz
      go_wp2_with fail
      refine (HKN.out w5).mono ?_
      rintro e w8 ⟨rfl, hb⟩
      have B8 := Lib.hid (B5.out.trans (hb.mono B5.out.size))
      clear hb
      go_wp2_with fail
      go_ret
      exact ⟨rfl, B8.out⟩
end Go.Proofs.Ytjongjndoaojnaa

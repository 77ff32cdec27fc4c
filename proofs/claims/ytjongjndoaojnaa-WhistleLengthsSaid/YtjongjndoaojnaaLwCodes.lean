/-
  WhistleCodes: the walk. Condition: the code can be read.
-/
import Derived.Test.YtjongjndoaojnaaKr2
import Derived.Test.YtjongjndoaojnaaLwBacks
import Derived.Test.YtjongjndoaojnaaSp2
namespace Go.Proofs.Ytjongjndoaojnaa
open Go.RowKit
set_option linter.unusedVariables false

theorem wt_fil (C : List ByteArray) : wt 12 (Cl C) = fil (lensC C) := by
  induction C with
  | nil => rfl
  | cons s r ih =>
    have e1 : Cl (s :: r) = bl s :: Cl r := rfl
    have e2 : lensC (s :: r) = (s.size : Int) :: lensC r := rfl
    rw [e1, e2, wt, ih]
    unfold fil
    rw [List.map_cons, List.sum_cons, bl_len, Int.toNat_natCast]
theorem safe_sum {C : List ByteArray} (h : sfB C = true) : (kraft C).1 ≤ (kraft C).2 := by
  unfold sfB at h
  by_cases hv : vE C = 0
  · rw [if_pos hv] at h
    have hV := vE_ok hv
    have hs : Safe (Cl C) := by unfold safeC at h; exact @of_decide_eq_true _ (Classical.propDecidable _) h
    have hk := safe_kraft (C := Cl C) (p := (46 : UInt8)) (q := 45) (L := 12) (by decide) (by
      unfold Cl List.Nodup
      rw [List.pairwise_map]
      exact List.Pairwise.imp (fun hab e => hab (bl_inj e)) hV.nd) hs (fun x hx => by
        obtain ⟨s, hs, rfl⟩ := List.mem_map.1 hx
        rw [bl_len]
        exact (sgB_iff.1 (hV.sg s hs)).2.1) (fun x hx c hc => by
        obtain ⟨s, hs, rfl⟩ := List.mem_map.1 hx
        have := List.all_eq_true.1 (sgB_iff.1 (hV.sg s hs)).2.2 c hc
        rcases note_u8 this with h | h
        · exact .inl h.1
        · exact .inr h.1)
    rw [wt_fil] at hk
    unfold kraft
    rw [if_pos hv]
    have := (red_gt 12 (fil (lensC C))).1
    rcases Nat.lt_or_ge (red 12 (fil (lensC C))).2 (red 12 (fil (lensC C))).1 with h1 | h1
    · have := this h1
      omega
    · exact h1
  · rw [if_neg hv] at h
    cases h
theorem fields_rat : ∃ f0 f1 : Field, Try.prog.fieldsOf 44 = #[f0, f1] ∧ f0.type = 3 ∧ f1.type = 3 ∧ f0.offset = 0 ∧ f1.offset = 1 ∧ f0.name = "Num" ∧ f1.name = "Den" := by
  have ht : Try.prog.underlying 44 = some (.struct (Try.prog.fieldsOf 44)) := by kernel_rfl
  have h := Try.underlying44.symm.trans ht
  injection h with h
  injection h with h
  exact ⟨_, _, h.symm, rfl, rfl, rfl, rfl, rfl, rfl⟩
theorem rat_in (a b : Int) (W : World) : (Op.equalIn 10000 44 (.agg #[.int .i64 a, .int .i64 b]) (.agg #[.int .i64 a, .int .i64 b])).run Try.prog W = .ok true W := by
  have ht : Try.prog.underlying 44 = some (.struct (Try.prog.fieldsOf 44)) := by kernel_rfl
  have hp : Try.prog.stoodInHeld 44 = false := by kernel_rfl
  rw [run_equalIn_struct _ _ _ _ _ ht hp]
  obtain ⟨f0, f1, hf, t0, t1, o0, o1, n0, n1⟩ := fields_rat
  rw [hf]
  have hi := Try.underlying3
  simp [Op.eqFields, t0, t1, o0, o1, n0, n1, go_sem, hi]
theorem rat_ne (a b : Int) (W : World) : (binOp .neq 44 (.agg #[.int .i64 a, .int .i64 b]) (.agg #[.int .i64 a, .int .i64 b])).run Try.prog W = .ok (.bool false) W := by
  rw [run_neq_struct, rat_in]
  rfl
theorem guard_rat : Try.prog.eqGuardType Try.prog.depth 44 = false := by kernel_rfl
set_option maxRecDepth 8000 in
set_option maxHeartbeats 4000000 in
theorem Codes_walk (A : Option Addr) (c : Nat) (C : List ByteArray) (w : World) (hr : Rd w w.heap.size A (txts C)) (hs : Sz C) (hl : C.length ≤ c) (hc : c ≤ maxLen) :
    Calls Try.prog 7 #[.slice A C.length c] w fun e w' => e = .returned (.bool true) ∧ Below w.heap.size w w' := by
  have hc' : c ≤ 9223372036854775807 := by unfold maxLen at hc; omega
  have HR := Lib.hid hr
  have HS := Lib.hid hs
  have HL := Lib.hid (Long_any A c C w hr (by omega))
  have HKN := Lib.hid known_any
  clear hr hs
  cases hlo : longB C
  · rw [hlo] at HL
    clear hlo
    have H1 := Lib.hid (fun w h => IsPrefix_any A c C w h HS.out hl hc')
    have H2 := Lib.hid (fun w h => rIsPrefix_any A c C w h HS.out (Nat.le_trans hl hc'))
    have H3 := Lib.hid (fun w h => Kraft_any A c C w h HS.out hl hc')
    have H4 := Lib.hid (fun w h => rKraft_any A c C w h HS.out hl hc')
    have H5 := Lib.hid (fun w h => IsSafe_any A c C w h HS.out hl hc')
    have H6 := Lib.hid (fun w h => rIsSafe_any A c C w h HS.out (Nat.le_trans hl hc'))
    have HPS := Lib.hid (fun h => prB_safe (C := C) h)
    have HSS := Lib.hid (fun h => safe_sum (C := C) h)
    unfold KraftPost at H3 H4
    generalize prB C = pr at *
    generalize sfB C = sf at *
    generalize vE C = v at *
    generalize (kraft C).1 = k1 at *
    generalize (kraft C).2 = k2 at *
    have e0 : (v != v) = false := by simp
    have e1 : (pr != pr) = false := by simp
    have e2 : (sf != sf) = false := by simp
    go_enter Try.func7, Try.ntmps7
    go_wp2_with fail
    refine (HL.out).mono ?_
    rintro e w' ⟨rfl, rfl⟩
    go_wp2_with fail
    refine (H1.out w HR.out).mono ?_
    rintro e w1 ⟨rfl, hb⟩
    have B1 := Lib.hid hb
    have R1 := Lib.hid (HR.out.go (B0 := 0) hb)
    clear hb
    go_wp2_with fail
    refine (H2.out w1 R1.out).mono ?_
    rintro e w2 ⟨rfl, hb⟩
    have B2 := Lib.hid (B1.out.trans (hb.mono B1.out.size))
    have R2 := Lib.hid (R1.out.go (B0 := 0) hb)
    clear hb
    go_wp2_with fail
    refine (H3.out w2 R2.out).mono ?_
    rintro e w3 ⟨rfl, hb⟩
    obtain ⟨W3, hW3, hg3, hs3, hb3⟩ := one_blk w3 #[.int .i64 (k1 : Int), .int .i64 (k2 : Int)] 44
    have B3 := Lib.hid ((B2.out.trans (hb.mono B2.out.size)).trans (hb3.mono (Nat.le_trans B2.out.size hb.size)))
    have R3 := Lib.hid ((R2.out.go (B0 := 0) hb).go (B0 := 0) hb3)
    have G3 := Lib.hid hg3
    have HW3 := Lib.hid hW3
    have S3 := Lib.hid hs3
    clear hb hW3 hg3 hs3 hb3
    go_wp2_with fail
    rw [HW3.out]
    refine (H4.out W3 R3.out).mono ?_
    rintro e w4 ⟨rfl, hb⟩
    obtain ⟨W4, hW4, hg4, hs4, hb4⟩ := one_blk w4 #[.int .i64 (k1 : Int), .int .i64 (k2 : Int)] 44
    have B4 := Lib.hid ((B3.out.trans (hb.mono B3.out.size)).trans (hb4.mono (Nat.le_trans B3.out.size hb.size)))
    have R4 := Lib.hid ((R3.out.go (B0 := 0) hb).go (B0 := 0) hb4)
    have G4 := Lib.hid ((hb4.block _ (Nat.lt_of_lt_of_le S3.out hb.size)).trans ((hb.block _ S3.out).trans G3.out))
    have K4 := Lib.hid hg4
    have S4 := Lib.hid (And.intro hs4 (Nat.lt_of_lt_of_le S3.out (Nat.le_trans hb.size hb4.size)))
    have HW4 := Lib.hid hW4
    clear hb hW4 hg4 hs4 hb4
    go_wp2_with fail
    rw [HW4.out]
    refine (H5.out W4 R4.out).mono ?_
    rintro e w5 ⟨rfl, hb⟩
    have B5 := Lib.hid (B4.out.trans (hb.mono B4.out.size))
    have R5 := Lib.hid (R4.out.go (B0 := 0) hb)
    have G5 := Lib.hid ((hb.block _ S4.out.2).trans G4.out)
    have K5 := Lib.hid ((hb.block _ S4.out.1).trans K4.out)
    clear hb
    go_wp2_with fail
    refine (H6.out w5 R5.out).mono ?_
    rintro e w6 ⟨rfl, hb⟩
    have B6 := Lib.hid (B5.out.trans (hb.mono B5.out.size))
    have G6 := (hb.block _ (lt_of_block G5.out)).trans G5.out
    have K6 := (hb.block _ (lt_of_block K5.out)).trans K5.out
    have c0 := (blk_cell (j := 0) G6).trans (show _ = some (.int .i64 (k1 : Int)) from rfl)
    have c1 := (blk_cell (j := 1) G6).trans (show _ = some (.int .i64 (k2 : Int)) from rfl)
    have d0 := (blk_cell (j := 0) K6).trans (show _ = some (.int .i64 (k1 : Int)) from rfl)
    have d1 := (blk_cell (j := 1) K6).trans (show _ = some (.int .i64 (k2 : Int)) from rfl)
    have q1 := fun W => rat_in (k1 : Int) (k2 : Int) W
    have q2 := fun W => rat_ne (k1 : Int) (k2 : Int) W
    have q3 := guard_rat
    have HKK := Lib.hid (HKN.out w6)
    clear hb G6 K6
    have fin : ∀ (e : Ending) (w' : World), (e = .returned (.bool true) ∧ Below w6.heap.size w6 w') → (e = .returned (.bool true) ∧ Below w.heap.size w w') := by
      rintro e w' ⟨rfl, hb⟩
      exact ⟨rfl, B6.out.trans (hb.mono B6.out.size)⟩
    have FIN := Lib.hid fin
    clear fin
    cases hsf : sf
    · have hpr : pr = false := by
        cases hp : pr
        · rfl
        · rw [HPS.out hp] at hsf; cases hsf
      subst hpr hsf
      go_wp2_with fail
      refine HKK.out.mono ?_
      rintro e w8 ⟨rfl, hb⟩
      go_wp2_with fail
      go_ret
      exact FIN.out _ _ ⟨rfl, hb⟩
    · have hle := HSS.out hsf
      have e4 : decide ((k1 : Int) ≤ (k2 : Int)) = true := by simp; omega
      have e5 : decide (k1 ≤ k2) = true := by simpa using hle
      subst hsf
      clear hle
      cases pr
      · go_wp2_with fail
        refine HKK.out.mono ?_
        rintro e w8 ⟨rfl, hb⟩
        go_wp2_with fail
        go_ret
        exact FIN.out _ _ ⟨rfl, hb⟩
      · go_wp2_with fail
        refine HKK.out.mono ?_
        rintro e w8 ⟨rfl, hb⟩
        go_wp2_with fail
        go_ret
        exact FIN.out _ _ ⟨rfl, hb⟩
  · rw [hlo] at HL
    clear hlo
    go_enter Try.func7, Try.ntmps7
    go_wp2_with fail
    refine (HL.out).mono ?_
    rintro e w' ⟨rfl, rfl⟩
    go_wp2_with fail
    refine (HKN.out w).mono ?_
    rintro e w8 ⟨rfl, hb⟩
    go_wp2_with fail
    go_ret
    exact ⟨rfl, hb⟩
end Go.Proofs.Ytjongjndoaojnaa

/-
  Messages that sound alike: the walks of CheckAlike of the reference, of Alike. Conditions: what they read can be read.
-/
import Derived.Test.YtjongjndoaojnaaAl1
import Derived.Deep.QuietTactic
namespace Go.Proofs.Ytjongjndoaojnaa
open Go.RowKit
set_option linter.unusedVariables false

/-- The first error of two messages that are to sound alike. -/
def aE (C : List ByteArray) (a b : List Int) : Int := if vE C = 0 then (if mE C [⟨none, 0, a⟩, ⟨none, 0, b⟩] = 0 then (if a = b ∨ ¬ sndL C a = sndL C b then 7 else 0) else mE C [⟨none, 0, a⟩, ⟨none, 0, b⟩]) else vE C
theorem mE_two (C : List ByteArray) (A A' : Option Addr) (c c' : Nat) (a b : List Int) : mE C [⟨A, c, a⟩, ⟨A', c', b⟩] = mE C [⟨none, 0, a⟩, ⟨none, 0, b⟩] := rfl
theorem mE_zero {C : List ByteArray} {a b : List Int} (h : mE C [⟨none, 0, a⟩, ⟨none, 0, b⟩] = 0) : a.length ≤ 400 ∧ b.length ≤ 400 ∧ idxB C a = true ∧ idxB C b = true := by
  unfold mE at h
  by_cases h1 : bigB [⟨none, 0, a⟩, ⟨none, 0, b⟩] = true
  · rw [if_pos h1] at h; cases h
  · rw [if_neg h1] at h
    by_cases h2 : ([(⟨none, 0, a⟩ : Mr), ⟨none, 0, b⟩].all fun m => idxB C m.l) = true
    · simp [bigB] at h1
      simp at h2
      exact ⟨h1.1, h1.2, h2.1, h2.2⟩
    · rw [if_neg h2] at h; cases h
theorem meet_mE {C : List ByteArray} {a b : List Int} (h : Meet C a b) : mE C [⟨none, 0, a⟩, ⟨none, 0, b⟩] = 0 := by
  unfold mE
  have h1 := h.la
  have h2 := h.lb
  rw [if_neg (by simp [bigB]; omega), if_pos (by simp [h.ia, h.ib])]
theorem meet_aE {C : List ByteArray} {a b : List Int} (hv : vE C = 0) (h : Meet C a b) : aE C a b = 0 := by
  unfold aE
  rw [if_pos hv, if_pos (meet_mE h), if_neg]
  rintro (h1 | h1)
  · exact h.ne h1
  · exact h1 h.snd
theorem ofL_inj {a b : List UInt8} : ofL a = ofL b ↔ a = b := ⟨fun h => by rw [← bl_ofL a, h, bl_ofL], fun h => by rw [h]⟩
theorem snd_cmp (a b : List UInt8) : ((ofL a).toList == (ofL b).toList) = decide (a = b) := by
  rw [bl_eqb, decide_eq_decide]
  exact ofL_inj
set_option maxRecDepth 8000 in
set_option maxHeartbeats 2000000 in
theorem rCheckAlike_any (A Aa Ab : Option Addr) (c ca cb : Nat) (C : List ByteArray) (a b : List Int) (w : World) (hr : Rd w w.heap.size A (txts C)) (hs : Sz C) (hl : C.length ≤ 9223372036854775807)
    (ha : Rd w w.heap.size Aa (ints a)) (hb : Rd w w.heap.size Ab (ints b)) (hla : a.length ≤ 9223372036854775807) (hlb : b.length ≤ 9223372036854775807) :
    Calls Try.prog 37 #[.slice A C.length c, .slice Aa a.length ca, .slice Ab b.length cb] w fun e w' => e = .returned (.int .i64 (aE C a b)) ∧ Below w.heap.size w w' := by
  have HVA := Lib.hid (rValidate_any A c C w hr hs hl)
  have HR := Lib.hid hr
  have HA := Lib.hid ha
  have HB := Lib.hid hb
  clear hr hs ha hb
  by_cases hv : vE C = 0
  · have HVd := Lib.hid (vE_ok hv)
    have HAE := Lib.hid (show aE C a b = if mE C [⟨none, 0, a⟩, ⟨none, 0, b⟩] = 0 then (if a = b ∨ ¬ sndL C a = sndL C b then 7 else 0) else mE C [⟨none, 0, a⟩, ⟨none, 0, b⟩] from if_pos hv)
    rw [hv] at HVA
    clear hv
    go_enter Try.func37, Try.ntmps37
    go_wp2_with fail
    refine HVA.out.mono ?_
    rintro e w1 ⟨rfl, m, hm⟩
    have hb1 : Below w.heap.size w w1 := by rw [hm]; exact bdN (Below.refl _ _) m
    have B1 := Lib.hid hb1
    have R1 := Lib.hid (HR.out.go (B0 := 0) hb1)
    have A1 := Lib.hid (HA.out.go (B0 := 0) hb1)
    have BB1 := Lib.hid (HB.out.go (B0 := 0) hb1)
    clear hm hb1
    obtain ⟨W, hW, hg, hsz, hbw⟩ := one_blk w1 #[.slice Aa a.length ca, .slice Ab b.length cb] 23
    have HW := Lib.hid hW
    have B2 := Lib.hid (B1.out.trans (hbw.mono B1.out.size))
    have R2 := Lib.hid (R1.out.go (B0 := 0) hbw)
    have A2 := Lib.hid (A1.out.go (B0 := 0) hbw)
    have BB2 := Lib.hid (BB1.out.go (B0 := 0) hbw)
    have HM := Lib.hid (show RdM W (some ⟨w1.heap.size, 0, none⟩) [⟨Aa, ca, a⟩, ⟨Ab, cb, b⟩] from ⟨Rd.of_block (by exact hg), fun m hm => by
      simp only [List.mem_cons, List.not_mem_nil, or_false] at hm
      rcases hm with rfl | rfl
      · exact A2.out
      · exact BB2.out, fun m hm => by
      simp only [List.mem_cons, List.not_mem_nil, or_false] at hm
      rcases hm with rfl | rfl
      · exact hla
      · exact hlb⟩)
    clear hW hg hsz hbw
    have HOK := Lib.hid (messageOK_any A (some ⟨w1.heap.size, 0, none⟩) c 2 C [⟨Aa, ca, a⟩, ⟨Ab, cb, b⟩] W hl HM.out (by simp))
    rw [mE_two] at HOK
    by_cases hm : mE C [⟨none, 0, a⟩, ⟨none, 0, b⟩] = 0
    · obtain ⟨h1, h2, h3, h4⟩ := mE_zero hm
      rw [hm] at HOK
      rw [if_pos hm] at HAE
      have HS1 := Lib.hid (fun w h h' => sound_any A Aa c ca C a w HVd.out h h' h3 h1)
      have HS2 := Lib.hid (fun w h h' => sound_any A Ab c cb C b w HVd.out h h' h4 h2)
      have HSI := Lib.hid (SameInts_any Aa Ab ca cb a b W A2.out BB2.out hla hlb)
      clear hm h3 h4
      by_cases hab : a = b
      · rw [decide_eq_true hab] at HSI
        rw [if_pos (.inl hab)] at HAE
        clear hab
        go_wp2_with fail
        rw [HW.out]
        refine HOK.out.mono ?_
        rintro e w' ⟨rfl, rfl⟩
        go_wp2_with fail
        refine HSI.out.mono ?_
        rintro e w' ⟨rfl, m, rfl⟩
        go_wp2_with fail
        go_ret
        exact ⟨by rw [HAE.out]; rfl, bdN B2.out m⟩
      · rw [decide_eq_false hab] at HSI
        have hcmp := snd_cmp (sndL C a) (sndL C b)
        cases hsd : decide (sndL C a = sndL C b)
        · rw [hsd] at hcmp
          rw [if_pos (.inr (of_decide_eq_false hsd))] at HAE
          clear hab hsd
          go_wp2_with fail
          rw [HW.out]
          refine HOK.out.mono ?_
          rintro e w' ⟨rfl, rfl⟩
          go_wp2_with fail
          refine HSI.out.mono ?_
          rintro e w' ⟨rfl, m, rfl⟩
          go_wp2_with fail
          refine (HS1.out _ (R2.out.drewN m) (A2.out.drewN m)).mono ?_
          rintro e w' ⟨rfl, rfl⟩
          go_wp2_with fail
          refine (HS2.out _ (R2.out.drewN m) (BB2.out.drewN m)).mono ?_
          rintro e w' ⟨rfl, rfl⟩
          go_wp2_with fail
          go_ret
          exact ⟨by rw [HAE.out]; rfl, bdN B2.out m⟩
        · rw [hsd] at hcmp
          rw [if_neg (by rintro (h | h); exact hab h; exact h (of_decide_eq_true hsd))] at HAE
          clear hab hsd
          go_wp2_with fail
          rw [HW.out]
          refine HOK.out.mono ?_
          rintro e w' ⟨rfl, rfl⟩
          go_wp2_with fail
          refine HSI.out.mono ?_
          rintro e w' ⟨rfl, m, rfl⟩
          go_wp2_with fail
          refine (HS1.out _ (R2.out.drewN m) (A2.out.drewN m)).mono ?_
          rintro e w' ⟨rfl, rfl⟩
          go_wp2_with fail
          refine (HS2.out _ (R2.out.drewN m) (BB2.out.drewN m)).mono ?_
          rintro e w' ⟨rfl, rfl⟩
          go_wp2_with fail
          go_ret
          exact ⟨by rw [HAE.out]; rfl, bdN B2.out m⟩
    · have e1 : (mE C [⟨none, 0, a⟩, ⟨none, 0, b⟩] != 0) = true := by simpa using hm
      rw [if_neg hm] at HAE
      clear hm
      generalize mE C [⟨none, 0, a⟩, ⟨none, 0, b⟩] = me at *
      go_wp2_with fail
      rw [HW.out]
      refine HOK.out.mono ?_
      rintro e w' ⟨rfl, rfl⟩
      go_wp2_with fail
      go_ret
      exact ⟨by rw [HAE.out]; rfl, B2.out⟩
  · have e1 : (vE C != 0) = true := by simpa using hv
    have HAE := Lib.hid (show aE C a b = vE C from if_neg hv)
    clear hv
    go_enter Try.func37, Try.ntmps37
    go_wp2_with fail
    refine HVA.out.mono ?_
    rintro e w1 ⟨rfl, m, rfl⟩
    go_wp2_with fail
    go_ret
    exact ⟨by rw [HAE.out]; rfl, bdN (Below.refl _ _) m⟩
theorem results_tmp4 {fn : Func} {t u v x : Tmp} (h : fn.results = #[.tmp t, .tmp u, .tmp v, .tmp x]) (tmps : Array Value) (P : Program) (w : World) :
    (results fn tmps).run P w = .ok (.tuple #[tmps.getD t undef, tmps.getD u undef, tmps.getD v undef, tmps.getD x undef]) w := by
  simp [results, h]
/-- What Alike gives. -/
def AlikePost (C : List ByteArray) (w : World) (e : Ending) (w' : World) : Prop :=
  ∃ A1 c1 la A2 c2 l2, e = .returned (.tuple #[.slice A1 la.length c1, .slice A2 l2.length c2, .bool (decide (vE C = 0) && !sfB C), .int .i64 (vE C)]) ∧ Rd w' w'.heap.size A1 (ints la) ∧ Rd w' w'.heap.size A2 (ints l2) ∧ la.length ≤ 400 ∧ l2.length ≤ 400 ∧
    ((decide (vE C = 0) && !sfB C) = true → aE C la l2 = 0) ∧ ((decide (vE C = 0) && !sfB C) = false → la = [] ∧ l2 = []) ∧ Below w.heap.size w w'
set_option maxRecDepth 8000 in
set_option maxHeartbeats 2000000 in
theorem Alike_any (A : Option Addr) (c : Nat) (C : List ByteArray) (w : World) (hr : Rd w w.heap.size A (txts C)) (hs : Sz C) (hl : C.length ≤ c) (hc : c ≤ 9223372036854775807) :
    Calls Try.prog 36 #[.slice A C.length c] w fun e w' => AlikePost C w e w' := by
  have HVA := Lib.hid (Validate_any A c C w hr hs hl hc)
  have HR := Lib.hid hr
  clear hr hs
  by_cases hv : vE C = 0
  · have HV := Lib.hid (vE_ok hv)
    have HE := Lib.hid hv
    have HSF := Lib.hid (show sfB C = safeC C from if_pos hv)
    rw [hv] at HVA
    clear hv
    go_enter Try.func36, Try.ntmps36
    go_wp2_with fail
    refine HVA.out.mono ?_
    rintro e w1 ⟨rfl, hb⟩
    have HL := Lib.hid (leave_any C A c w1 HV.out ((HR.out.below hb (Nat.le_refl _)).more hb.size))
    have B1 := Lib.hid hb
    clear hb
    go_wp2_with fail
    refine HL.out.mono ?_
    rintro e w2 ⟨⟨L, m, AE, cE, A1, n1, c1, A2, n2, c2, lb, mb, o, rfl, h1, h2, h3, h4, h5⟩, hb2⟩
    have B2 := Lib.hid (B1.out.trans (hb2.mono B1.out.size))
    have HFN := Lib.hid (show (decide (vE C = 0) && !sfB C) = m by rw [HE.out, HSF.out, h2]; simp)
    have HMT := Lib.hid h5
    obtain ⟨W, hW, hg, hsz, hbw⟩ := one_blk w2 #[.slice AE L.length cE, .slice A1 n1 c1, .slice A2 n2 c2, .bool m] 70
    have HW := Lib.hid hW
    have B3 := Lib.hid (B2.out.trans (hbw.mono B2.out.size))
    have HBW := Lib.hid hbw
    have d1 := (blk_cell (j := 1) hg).trans (show _ = some (.slice A1 n1 c1) from rfl)
    have d2 := (blk_cell (j := 2) hg).trans (show _ = some (.slice A2 n2 c2) from rfl)
    have d3 := (blk_cell (j := 3) hg).trans (show _ = some (.bool m) from rfl)
    clear h1 h2 h3 h4 h5 hb2 hW hg hsz hbw
    go_wp2_with fail
    rw [HW.out]
    go_quiet (fail)
    go_wp2_with fail
    (try simp only [Exit.inBlock, Exit.then])
    refine bodyPost_ret (results_tmp4 rfl _ _ _) rfl ?_
    rcases HMT.out with ⟨hm, ha, hb⟩ | ⟨hm, Aa, la, ca, Ab, l2, cb, ha, hb, hma, hmb, hme⟩
    · injection ha with ha1 ha2 ha3
      injection hb with hb1 hb2 hb3
      refine ⟨none, 0, [], none, 0, [], by rw [HFN.out, HE.out, hm, ha1, ha2, ha3, hb1, hb2, hb3]; rfl, Rd.nil_, Rd.nil_, by simp, by simp, fun h => ?_, fun _ => ⟨rfl, rfl⟩, bdN B3.out _⟩
      rw [HFN.out, hm] at h
      cases h
    · injection ha with ha1 ha2 ha3
      injection hb with hb1 hb2 hb3
      refine ⟨Aa, ca, la, Ab, cb, l2, by rw [HFN.out, HE.out, ha1, ha2, ha3, hb1, hb2, hb3]; rfl, ?_, ?_, hme.la, hme.lb, fun _ => meet_aE HE.out hme, fun h => ?_, bdN B3.out _⟩
      · exact ((hma.rd.below HBW.out (Nat.le_refl _)).more HBW.out.size).drewN _
      · exact ((hmb.rd.below HBW.out (Nat.le_refl _)).more HBW.out.size).drewN _
      · rw [HFN.out, hm] at h
        cases h
  · have e1 : (vE C != 0) = true := by simpa using hv
    have HF := Lib.hid (show (decide (vE C = 0) && !sfB C) = false by rw [decide_eq_false hv]; rfl)
    clear hv
    go_enter Try.func36, Try.ntmps36
    go_wp2_with fail
    refine HVA.out.mono ?_
    rintro e w1 ⟨rfl, hb⟩
    have B1 := Lib.hid hb
    clear hb
    go_wp2_with fail
    (try simp only [Exit.inBlock, Exit.then])
    refine bodyPost_ret (results_tmp4 rfl _ _ _) rfl ?_
    refine ⟨none, 0, [], none, 0, [], by rw [HF.out]; rfl, Rd.nil_, Rd.nil_, by simp, by simp, fun h => ?_, fun _ => ⟨rfl, rfl⟩, B1.out⟩
    rw [HF.out] at h
    cases h
end Go.Proofs.Ytjongjndoaojnaa

/-
  WhistleChecks: the walks of Equal, CheckAlike, and the law's. Conditions: the code and the messages can be read.
-/
import Derived.Test.YtjongjndoaojnaaBd3
namespace Go.Proofs.Ytjongjndoaojnaa
open Go.RowKit
set_option linter.unusedVariables false

set_option maxRecDepth 4000 in
set_option maxHeartbeats 1000000 in
theorem EqualI_any (A A' : Option Addr) (c c' : Nat) (a b : List Int) (w : World) (hr : Rd w w.heap.size A (ints a)) (hr' : Rd w w.heap.size A' (ints b)) (hl : a.length ≤ 9223372036854775807) (hl' : b.length ≤ 9223372036854775807) :
    Calls Try.prog 73 #[.slice A a.length c, .slice A' b.length c'] w fun e w' => e = .returned (.bool (decide (a = b))) ∧ ∃ m, w' = w.drewN m := by
  have HR := Lib.hid hr
  have HR' := Lib.hid hr'
  clear hr hr'
  by_cases hab : a.length = b.length
  · have e1 : (((a.length : Nat) : Int) != ((b.length : Nat) : Int)) = false := by rw [hab]; simp
    have e2 : ((a.length : Nat) != b.length) = false := by rw [hab]; simp
    have HAB := Lib.hid hab
    clear hab
    go_enter Try.func73, Try.ntmps73
    go_wp2_with fail
    go_loopw [13] (fun i wr => ∃ k : Nat, k ≤ a.length ∧ i = .int .i64 k ∧ a.take k = b.take k ∧ ∃ m, wr = w.drewN m) (fun i _ => a.length - (intOf i).toNat)
    case atStart => exact ⟨0, by omega, rfl, rfl, 0, rfl⟩
    case round =>
      obtain ⟨k, hk, rfl, hall, m, rfl⟩ := hrel
      have HA := Lib.hid hall
      clear hall
      by_cases hlt : k < a.length
      · have hlt' : k < b.length := by have := HAB.out; omega
        obtain ⟨b1, o1, x, hA1, hx, hc⟩ := HR.out.int k hlt
        obtain ⟨b2, o2, y, hA2, hy, hc'⟩ := HR'.out.int k hlt'
        have HX1 := Lib.hid hA1
        have HX2 := Lib.hid hA2
        subst hA1 hA2
        have b0 : (0 : Int) ≤ (k : Int) := by omega
        have b1' : (k : Int) < (a.length : Int) := by omega
        have b2' : (k : Int) < (b.length : Int) := by omega
        by_cases he : x = y
        · have HX := Lib.hid (eqI_next hx.out hy.out HA.out he)
          have e4 : (x != y) = false := by simpa using he
          clear he
          go_wp2_with fail
          go_quiet (fail)
          go_wp2_with fail
          go_roundw
          case rel => exact ⟨k + 1, by omega, by go_num, HX.out, _, rfl⟩
          case measure => simp [intOf]; omega
        · have HX := Lib.hid (eqI_bad hx.out hy.out he)
          have e4 : (x != y) = true := by simpa using he
          clear he
          go_wp2_with fail
          go_quiet (fail)
          go_wp2_with fail
          go_ret
          exact ⟨by rw [HX.out]; rfl, _, World.drewN_drewN _ _ _⟩
      · have hks : k = a.length := by omega
        have HX := Lib.hid (show decide (a = b) = true by
          have h := HA.out
          rw [hks, List.take_length, HAB.out, List.take_length] at h
          exact decide_eq_true h)
        subst hks
        go_wp2_with fail
        go_ret
        exact ⟨by rw [HX.out]; rfl, _, rfl⟩
  · have e1 : (((a.length : Nat) : Int) != ((b.length : Nat) : Int)) = true := by simp; omega
    have e2 : ((a.length : Nat) != b.length) = true := by simpa using hab
    have HX := Lib.hid (show decide (a = b) = false from decide_eq_false fun h => hab (by rw [h]))
    clear hab
    go_enter Try.func73, Try.ntmps73
    go_wp2_with fail
    go_ret
    exact ⟨by rw [HX.out]; rfl, 0, rfl⟩
theorem cmE_two (C : List ByteArray) (A A' : Option Addr) (c c' : Nat) (a b : List Int) : cmE C [⟨A, c, a⟩, ⟨A', c', b⟩] = cmE C [⟨none, 0, a⟩, ⟨none, 0, b⟩] := rfl
theorem rdm_two {w W : World} {A A' : Option Addr} {c c' : Nat} {a b : List Int} (ha : Rd W W.heap.size A (ints a)) (hb : Rd W W.heap.size A' (ints b)) (hla : a.length ≤ 9223372036854775807) (hlb : b.length ≤ 9223372036854775807)
    (hg : W.heap[w.heap.size]? = some (.cells #[.slice A a.length c, .slice A' b.length c'] 23 (0, 0))) : RdM W (some ⟨w.heap.size, 0, none⟩) [⟨A, c, a⟩, ⟨A', c', b⟩] := by
  refine ⟨Rd.of_block (by exact hg), fun m hm => ?_, fun m hm => ?_⟩
  all_goals
    simp only [List.mem_cons, List.not_mem_nil, or_false] at hm
    rcases hm with rfl | rfl
    all_goals assumption
set_option maxRecDepth 8000 in
set_option maxHeartbeats 2000000 in
theorem CheckAlike_any (A Aa Ab : Option Addr) (c ca cb : Nat) (C : List ByteArray) (a b : List Int) (w : World) (hr : Rd w w.heap.size A (txts C)) (hs : Sz C) (hl : C.length ≤ c) (hc : c ≤ 9223372036854775807)
    (ha : Rd w w.heap.size Aa (ints a)) (hb : Rd w w.heap.size Ab (ints b)) (hla : a.length ≤ 9223372036854775807) (hlb : b.length ≤ 9223372036854775807) :
    Calls Try.prog 38 #[.slice A C.length c, .slice Aa a.length ca, .slice Ab b.length cb] w fun e w' => e = .returned (.int .i64 (aE C a b)) ∧ Below w.heap.size w w' := by
  obtain ⟨W, hW, hg, hsz, hbw⟩ := one_blk w #[.slice Aa a.length ca, .slice Ab b.length cb] 23
  have HW := Lib.hid hW
  have BW := Lib.hid hbw
  have HR := Lib.hid (hr.go (B0 := 0) hbw)
  have HA := Lib.hid (ha.go (B0 := 0) hbw)
  have HB := Lib.hid (hb.go (B0 := 0) hbw)
  have HC := Lib.hid (checkMessages_any A (some ⟨w.heap.size, 0, none⟩) c 2 C [⟨Aa, ca, a⟩, ⟨Ab, cb, b⟩] W HR.out hs hl hc (rdm_two HA.out HB.out hla hlb hg) (by simp))
  rw [cmE_two] at HC
  clear hW hg hsz hbw hr ha hb hs
  by_cases hz : cmE C [⟨none, 0, a⟩, ⟨none, 0, b⟩] = 0
  · have hv : vE C = 0 := by
      unfold cmE at hz
      by_cases h : vE C = 0
      · exact h
      · rw [if_neg h] at hz; exact absurd hz h
    have hm : mE C [⟨none, 0, a⟩, ⟨none, 0, b⟩] = 0 := by unfold cmE at hz; rw [if_pos hv] at hz; exact hz
    obtain ⟨h1, h2, h3, h4⟩ := mE_zero hm
    have HAE := Lib.hid (show aE C a b = if a = b ∨ ¬ sndL C a = sndL C b then 7 else 0 by unfold aE; rw [if_pos hv, if_pos hm])
    rw [hz] at HC
    have HS1 := Lib.hid (fun w h h' => soundOf_any A Aa c ca C a w (vE_ok hv) h h' h3 h1)
    have HS2 := Lib.hid (fun w h h' => soundOf_any A Ab c cb C b w (vE_ok hv) h h' h4 h2)
    have HEQ := Lib.hid (fun w h h' => EqualI_any Aa Ab ca cb a b w h h' hla hlb)
    clear hz hv hm h1 h2 h3 h4
    by_cases hab : a = b
    · rw [if_pos (.inl hab)] at HAE
      simp only [decide_eq_true hab] at HEQ
      clear hab
      go_enter Try.func38, Try.ntmps38
      go_wp2_with fail
      rw [HW.out]
      refine HC.out.mono ?_
      rintro e w1 ⟨rfl, hb⟩
      have B1 := Lib.hid (BW.out.trans (hb.mono BW.out.size))
      have A1 := Lib.hid (HA.out.go (B0 := 0) hb)
      have BB1 := Lib.hid (HB.out.go (B0 := 0) hb)
      clear hb
      go_wp2_with fail
      refine (HEQ.out w1 A1.out BB1.out).mono ?_
      rintro e w' ⟨rfl, m, rfl⟩
      go_wp2_with fail
      go_ret
      exact ⟨by rw [HAE.out]; rfl, bdN B1.out m⟩
    · simp only [decide_eq_false hab] at HEQ
      have hcmp := snd_cmp (sndL C a) (sndL C b)
      cases hsd : decide (sndL C a = sndL C b)
      · rw [hsd] at hcmp
        rw [if_pos (.inr (of_decide_eq_false hsd))] at HAE
        clear hab hsd
        go_enter Try.func38, Try.ntmps38
        go_wp2_with fail
        rw [HW.out]
        refine HC.out.mono ?_
        rintro e w1 ⟨rfl, hb⟩
        have B1 := Lib.hid (BW.out.trans (hb.mono BW.out.size))
        have R1 := Lib.hid (HR.out.go (B0 := 0) hb)
        have A1 := Lib.hid (HA.out.go (B0 := 0) hb)
        have BB1 := Lib.hid (HB.out.go (B0 := 0) hb)
        clear hb
        go_wp2_with fail
        refine (HEQ.out w1 A1.out BB1.out).mono ?_
        rintro e w2 ⟨rfl, m, hmm⟩
        have hb : Below w1.heap.size w1 w2 := bd_drew hmm
        have B2 := Lib.hid (B1.out.trans (hb.mono B1.out.size))
        have R2 := Lib.hid (R1.out.go (B0 := 0) hb)
        have A2 := Lib.hid (A1.out.go (B0 := 0) hb)
        have BB2 := Lib.hid (BB1.out.go (B0 := 0) hb)
        clear hb hmm
        go_wp2_with fail
        refine (HS1.out w2 R2.out A2.out).mono ?_
        rintro e w3 ⟨rfl, hb⟩
        have B3 := Lib.hid (B2.out.trans (hb.mono B2.out.size))
        have R3 := Lib.hid (R2.out.go (B0 := 0) hb)
        have BB3 := Lib.hid (BB2.out.go (B0 := 0) hb)
        clear hb
        go_wp2_with fail
        refine (HS2.out w3 R3.out BB3.out).mono ?_
        rintro e w4 ⟨rfl, hb⟩
        have B4 := Lib.hid (B3.out.trans (hb.mono B3.out.size))
        clear hb
        go_wp2_with fail
        go_ret
        exact ⟨by rw [HAE.out]; rfl, B4.out⟩
      · rw [hsd] at hcmp
        rw [if_neg (by rintro (h | h); exact hab h; exact h (of_decide_eq_true hsd))] at HAE
        clear hab hsd
        go_enter Try.func38, Try.ntmps38
        go_wp2_with fail
        rw [HW.out]
        refine HC.out.mono ?_
        rintro e w1 ⟨rfl, hb⟩
        have B1 := Lib.hid (BW.out.trans (hb.mono BW.out.size))
        have R1 := Lib.hid (HR.out.go (B0 := 0) hb)
        have A1 := Lib.hid (HA.out.go (B0 := 0) hb)
        have BB1 := Lib.hid (HB.out.go (B0 := 0) hb)
        clear hb
        go_wp2_with fail
        refine (HEQ.out w1 A1.out BB1.out).mono ?_
        rintro e w2 ⟨rfl, m, hmm⟩
        have hb : Below w1.heap.size w1 w2 := bd_drew hmm
        have B2 := Lib.hid (B1.out.trans (hb.mono B1.out.size))
        have R2 := Lib.hid (R1.out.go (B0 := 0) hb)
        have A2 := Lib.hid (A1.out.go (B0 := 0) hb)
        have BB2 := Lib.hid (BB1.out.go (B0 := 0) hb)
        clear hb hmm
        go_wp2_with fail
        refine (HS1.out w2 R2.out A2.out).mono ?_
        rintro e w3 ⟨rfl, hb⟩
        have B3 := Lib.hid (B2.out.trans (hb.mono B2.out.size))
        have R3 := Lib.hid (R2.out.go (B0 := 0) hb)
        have BB3 := Lib.hid (BB2.out.go (B0 := 0) hb)
        clear hb
        go_wp2_with fail
        refine (HS2.out w3 R3.out BB3.out).mono ?_
        rintro e w4 ⟨rfl, hb⟩
        have B4 := Lib.hid (B3.out.trans (hb.mono B3.out.size))
        clear hb
        go_wp2_with fail
        go_ret
        exact ⟨by rw [HAE.out]; rfl, B4.out⟩
  · have e1 : (cmE C [⟨none, 0, a⟩, ⟨none, 0, b⟩] != 0) = true := by simpa using hz
    have HAE := Lib.hid (show aE C a b = cmE C [⟨none, 0, a⟩, ⟨none, 0, b⟩] by
      unfold cmE at hz ⊢
      unfold aE
      by_cases hv : vE C = 0
      · rw [if_pos hv] at hz
        rw [if_pos hv, if_pos hv, if_neg hz]
      · rw [if_neg hv, if_neg hv])
    clear hz
    generalize cmE C [⟨none, 0, a⟩, ⟨none, 0, b⟩] = me at *
    go_enter Try.func38, Try.ntmps38
    go_wp2_with fail
    rw [HW.out]
    refine HC.out.mono ?_
    rintro e w1 ⟨rfl, hb⟩
    have B1 := Lib.hid (BW.out.trans (hb.mono BW.out.size))
    clear hb
    go_wp2_with fail
    go_ret
    exact ⟨by rw [HAE.out]; rfl, B1.out⟩
theorem aE_comm (C : List ByteArray) (a b : List Int) : aE C b a = aE C a b := by
  have e : mE C [⟨none, 0, b⟩, ⟨none, 0, a⟩] = mE C [⟨none, 0, a⟩, ⟨none, 0, b⟩] := by
    unfold mE bigB
    simp only [List.any_cons, List.any_nil, Bool.or_false, List.all_cons, List.all_nil, Bool.and_true]
    rw [Bool.or_comm, Bool.and_comm]
  unfold aE
  rw [e]
  have h : (b = a ∨ ¬ sndL C b = sndL C a) ↔ (a = b ∨ ¬ sndL C a = sndL C b) := by
    constructor
    · rintro (h | h)
      · exact .inl h.symm
      · exact .inr fun e => h e.symm
    · rintro (h | h)
      · exact .inl h.symm
      · exact .inr fun e => h e.symm
  by_cases hc : a = b ∨ ¬ sndL C a = sndL C b
  · rw [if_pos hc, if_pos (h.2 hc)]
  · rw [if_neg hc, if_neg fun x => hc (h.1 x)]
theorem map_sg_inj {C : List ByteArray} (hV : Vd C) : ∀ {a b : List Int}, idxB C a = true → idxB C b = true → a.map (sgAt C) = b.map (sgAt C) → a = b
  | [], [], _, _, _ => rfl
  | [], y :: b, _, _, h => by cases h
  | x :: a, [], _, _, h => by cases h
  | x :: a, y :: b, ha, hb, h => by
    rw [List.map_cons, List.map_cons] at h
    injection h with h1 h2
    rw [show x :: a = [x] ++ a from rfl, idxB_append, Bool.and_eq_true] at ha
    rw [show y :: b = [y] ++ b from rfl, idxB_append, Bool.and_eq_true] at hb
    have hx : 0 ≤ x ∧ x < C.length := by simpa [idxB] using ha.1
    have hy : 0 ≤ y ∧ y < C.length := by simpa [idxB] using hb.1
    have kx : x.toNat < C.length := by omega
    have ky : y.toNat < C.length := by omega
    unfold sgAt at h1
    rw [List.getD_eq_getElem?_getD, List.getD_eq_getElem?_getD, List.getElem?_eq_getElem kx, List.getElem?_eq_getElem ky] at h1
    have h3 := (List.getElem_inj hV.nd).1 (bl_inj h1)
    have h4 : x = y := by omega
    rw [h4, map_sg_inj hV ha.2 hb.2 h2]
theorem msg_of {C : List ByteArray} {a : List Int} (ha : idxB C a = true) : Msg (Cl C) (a.map (sgAt C)) := by
  intro x hx
  obtain ⟨i, hi, rfl⟩ := List.mem_map.1 hx
  have hx := List.all_eq_true.1 (show a.all (okI C.length) = true from ha) i hi
  unfold okI at hx
  rw [Bool.and_eq_true, decide_eq_true_eq, decide_eq_true_eq] at hx
  have hk : i.toNat < C.length := by omega
  unfold sgAt
  rw [List.getD_eq_getElem?_getD, List.getElem?_eq_getElem hk]
  exact List.mem_map_of_mem (List.getElem_mem hk)
theorem aE_safe {C : List ByteArray} {a b : List Int} (h : aE C a b = 0) : sfB C = false := by
  unfold aE at h
  by_cases hv : vE C = 0
  · rw [if_pos hv] at h
    by_cases hm : mE C [⟨none, 0, a⟩, ⟨none, 0, b⟩] = 0
    · rw [if_pos hm] at h
      obtain ⟨_, _, h3, h4⟩ := mE_zero hm
      by_cases hc : a = b ∨ ¬ sndL C a = sndL C b
      · rw [if_pos hc] at h; cases h
      · have hV := vE_ok hv
        have hab : ¬ a = b := fun e => hc (.inl e)
        have hsd : sndL C a = sndL C b := Classical.byContradiction fun e => hc (.inr e)
        unfold sfB
        rw [if_pos hv]
        unfold safeC
        refine @decide_eq_false _ (Classical.propDecidable _) fun hs => hab ?_
        exact map_sg_inj hV h3 h4 (hs _ _ (msg_of h3) (msg_of h4) hsd)
    · rw [if_neg hm] at h; exact absurd h hm
  · rw [if_neg hv] at h; exact absurd h hv
set_option maxRecDepth 8000 in
set_option maxHeartbeats 4000000 in
theorem Checks_walk (A Aa Ab : Option Addr) (c ca cb : Nat) (C : List ByteArray) (a b : List Int) (w : World) (hr : Rd w w.heap.size A (txts C)) (hs : Sz C) (hl : C.length ≤ c) (hc : c ≤ maxLen)
    (ha : Rd w w.heap.size Aa (ints a)) (hla : a.length ≤ ca) (hca : ca ≤ maxLen) (hb : Rd w w.heap.size Ab (ints b)) (hlb : b.length ≤ cb) (hcb : cb ≤ maxLen) :
    Calls Try.prog 9 #[.slice A C.length c, .slice Aa a.length ca, .slice Ab b.length cb] w fun e w' => e = .returned (.bool true) ∧ Below w.heap.size w w' := by
  have hc' : c ≤ 9223372036854775807 := by unfold maxLen at hc; omega
  have hla' : a.length ≤ 9223372036854775807 := by unfold maxLen at hca; omega
  have hlb' : b.length ≤ 9223372036854775807 := by unfold maxLen at hcb; omega
  have HR := Lib.hid hr
  have HA := Lib.hid ha
  have HB := Lib.hid hb
  have HS := Lib.hid hs
  have HL := Lib.hid (Long_any A c C w hr (by omega))
  have HMA := Lib.hid (many_any Aa a.length ca w hla')
  have HMB := Lib.hid (many_any Ab b.length cb w hlb')
  have HKN := Lib.hid known_any
  clear hr hs ha hb
  cases hlo : longB C
  · rw [hlo] at HL
    clear hlo
    cases hma : decide (500 < a.length)
    · rw [hma] at HMA
      clear hma
      cases hmb : decide (500 < b.length)
      · rw [hmb] at HMB
        clear hmb
        have H1 := Lib.hid (fun w h h2 h3 => CheckAlike_any A Aa Ab c ca cb C a b w h HS.out hl hc' h2 h3 hla' hlb')
        have H2 := Lib.hid (fun w h h2 h3 => rCheckAlike_any A Aa Ab c ca cb C a b w h HS.out (Nat.le_trans hl hc') h2 h3 hla' hlb')
        have H3 := Lib.hid (fun w h h2 h3 => CheckAlike_any A Ab Aa c cb ca C b a w h HS.out hl hc' h2 h3 hlb' hla')
        have H4 := Lib.hid (fun w h => IsSafe_any A c C w h HS.out hl hc')
        simp only [aE_comm C a b] at H3
        have HSF := Lib.hid (fun h => aE_safe (C := C) (a := a) (b := b) h)
        generalize aE C a b = ae at *
        generalize vE C = v at *
        generalize sfB C = sf at *
        have e0 : (ae != ae) = false := by simp
        go_enter Try.func9, Try.ntmps9
        go_wp2_with fail
        refine (HL.out).mono ?_
        rintro e w' ⟨rfl, rfl⟩
        go_wp2_with fail
        refine HMA.out.mono ?_
        rintro e w' ⟨rfl, rfl⟩
        go_wp2_with fail
        refine HMB.out.mono ?_
        rintro e w' ⟨rfl, rfl⟩
        go_wp2_with fail
        refine (H1.out _ HR.out HA.out HB.out).mono ?_
        rintro e w1 ⟨rfl, hb⟩
        have B1 := Lib.hid hb
        have R1 := Lib.hid (HR.out.go (B0 := 0) hb)
        have A1 := Lib.hid (HA.out.go (B0 := 0) hb)
        have BB1 := Lib.hid (HB.out.go (B0 := 0) hb)
        clear hb
        go_wp2_with fail
        refine (H2.out w1 R1.out A1.out BB1.out).mono ?_
        rintro e w2 ⟨rfl, hb⟩
        have B2 := Lib.hid (B1.out.trans (hb.mono B1.out.size))
        have R2 := Lib.hid (R1.out.go (B0 := 0) hb)
        have A2 := Lib.hid (A1.out.go (B0 := 0) hb)
        have BB2 := Lib.hid (BB1.out.go (B0 := 0) hb)
        clear hb
        go_wp2_with fail
        refine (H3.out w2 R2.out BB2.out A2.out).mono ?_
        rintro e w3 ⟨rfl, hb⟩
        have B3 := Lib.hid (B2.out.trans (hb.mono B2.out.size))
        have R3 := Lib.hid (R2.out.go (B0 := 0) hb)
        clear hb
        go_wp2_with fail
        refine (H4.out w3 R3.out).mono ?_
        rintro e w4 ⟨rfl, hb⟩
        have B4 := Lib.hid (B3.out.trans (hb.mono B3.out.size))
        clear hb
        have HKK := Lib.hid (HKN.out w4)
        by_cases hz : ae = 0
        · have hsf := HSF.out hz
          have e2 : (ae != 0) = false := by rw [hz]; rfl
          subst hsf
          clear hz
          go_wp2_with fail
          refine HKK.out.mono ?_
          rintro e w8 ⟨rfl, hb⟩
          have B8 := Lib.hid (B4.out.trans (hb.mono B4.out.size))
          clear hb
          go_wp2_with fail
          go_ret
          exact ⟨rfl, B8.out⟩
        · have e2 : (ae != 0) = true := by simpa using hz
          clear hz
          go_wp2_with fail
          refine HKK.out.mono ?_
          rintro e w8 ⟨rfl, hb⟩
          have B8 := Lib.hid (B4.out.trans (hb.mono B4.out.size))
          clear hb
          go_wp2_with fail
          go_ret
          exact ⟨rfl, B8.out⟩
      · rw [hmb] at HMB
        clear hmb
        go_enter Try.func9, Try.ntmps9
        go_wp2_with fail
        refine (HL.out).mono ?_
        rintro e w' ⟨rfl, rfl⟩
        go_wp2_with fail
        refine HMA.out.mono ?_
        rintro e w' ⟨rfl, rfl⟩
        go_wp2_with fail
        refine HMB.out.mono ?_
        rintro e w' ⟨rfl, rfl⟩
        go_wp2_with fail
        refine (HKN.out _).mono ?_
        rintro e w8 ⟨rfl, hb⟩
        go_wp2_with fail
        go_ret
        exact ⟨rfl, hb⟩
    · rw [hma] at HMA
      clear hma
      go_enter Try.func9, Try.ntmps9
      go_wp2_with fail
      refine (HL.out).mono ?_
      rintro e w' ⟨rfl, rfl⟩
      go_wp2_with fail
      refine HMA.out.mono ?_
      rintro e w' ⟨rfl, rfl⟩
      go_wp2_with fail
      refine (HKN.out _).mono ?_
      rintro e w8 ⟨rfl, hb⟩
      go_wp2_with fail
      go_ret
      exact ⟨rfl, hb⟩
  · rw [hlo] at HL
    clear hlo
    go_enter Try.func9, Try.ntmps9
    go_wp2_with fail
    refine (HL.out).mono ?_
    rintro e w' ⟨rfl, rfl⟩
    go_wp2_with fail
    refine (HKN.out w).mono ?_
    rintro e w8 ⟨rfl, hb⟩
    go_wp2_with fail
    go_ret
    exact ⟨rfl, hb⟩
end Go.Proofs.Ytjongjndoaojnaa

/-
  How a message sounds: the walk of soundOf, of checkMessages. Conditions: what they read can be read.
-/
import Derived.Test.YtjongjndoaojnaaBd2
namespace Go.Proofs.Ytjongjndoaojnaa
open Go.RowKit
set_option linter.unusedVariables false

theorem snd_ne {C : List ByteArray} (hV : Vd C) {l : List Int} (hi : idxB C l = true) (h0 : 0 < l.length) : sndL C l ≠ [] := by
  cases l with
  | nil => simp at h0
  | cons x r =>
    intro e
    have hx := List.all_eq_true.1 (show (x :: r).all (okI C.length) = true from hi) x (List.mem_cons_self ..)
    unfold okI at hx
    rw [Bool.and_eq_true, decide_eq_true_eq, decide_eq_true_eq] at hx
    have hk : x.toNat < C.length := by omega
    rw [show x :: r = [x] ++ r from rfl, sndL_append, sndL_one] at e
    have e1 := (List.append_eq_nil_iff.1 e).1
    have hs := List.getElem?_eq_getElem hk
    unfold sgAt at e1
    rw [List.getD_eq_getElem?_getD, hs] at e1
    exact ne_nil_of hV _ (List.mem_map_of_mem (List.getElem_mem hk)) e1
theorem snd_step {C : List ByteArray} {l : List Int} {k : Nat} {x : Int} {s : ByteArray} (hx : l[k]? = some x) (hs : C[x.toNat]? = some s) : sndL C (l.take k) ++ bl s = sndL C (l.take (k + 1)) := by
  rw [List.take_add_one, hx]
  simp only [Option.toList_some]
  rw [sndL_append, sndL_one]
  unfold sgAt
  rw [List.getD_eq_getElem?_getD, hs]
  rfl
set_option maxRecDepth 8000 in
set_option maxHeartbeats 1000000 in
theorem soundOf_any (A Am : Option Addr) (c cm : Nat) (C : List ByteArray) (l : List Int) (w : World) (hV : Vd C) (hr : Rd w w.heap.size A (txts C)) (hm : Rd w w.heap.size Am (ints l)) (hi : idxB C l = true) (h400 : l.length ≤ 400) :
    Calls Try.prog 52 #[.slice A C.length c, .slice Am l.length cm] w fun e w' => e = .returned (.string (ofL (sndL C l))) ∧ Below w.heap.size w w' := by
  obtain ⟨W, hW, hg, hsz, hbw⟩ := one_blk w #[.pointer none, .slice none 0 0] 94
  have HW := Lib.hid hW
  have HF := Lib.hid (show IsBd w.heap.size w.heap.size (Lib.byteCells []) W by rw [← hW]; exact Lib.fresh_isBuilder _ _ w)
  have BW := Lib.hid hbw
  have HG := Lib.hid hg
  have HR := Lib.hid (hr.below hbw (Nat.le_refl _))
  have HM := Lib.hid (hm.below hbw (Nat.le_refl _))
  have HV := Lib.hid hV
  have HI := Lib.hid hi
  have HSZ := Lib.hid hsz
  clear hW hg hsz hbw hr hm hV hi
  rcases Nat.eq_zero_or_pos l.length with h0 | h0
  · have hl : l = [] := List.eq_nil_of_length_eq_zero h0
    subst hl
    have HS := Lib.hid (BString_nil w.heap.size w.heap.size (.pointer none) W HG.out)
    go_enter Try.func52, Try.ntmps52
    go_wp2_with fail
    rw [HW.out]
    go_loopw [10] (fun i wr => i = .int .i64 0 ∧ wr = W) (fun _ _ => 0)
    case atStart => exact ⟨rfl, rfl⟩
    case round =>
      obtain ⟨rfl, hww⟩ := hrel
      rw [hww]
      clear hww
      go_wp2_with fail
      refine HS.out.mono ?_
      rintro e w2 ⟨rfl, hb⟩
      have B2 := Lib.hid (BW.out.trans hb)
      clear hb
      go_wp2_with fail
      go_ret
      exact ⟨rfl, B2.out⟩
  · have HNE := Lib.hid (snd_ne HV.out HI.out h0)
    go_enter Try.func52, Try.ntmps52
    go_wp2_with fail
    rw [HW.out]
    go_loopw [10] (fun i wr => ∃ k : Nat, k ≤ l.length ∧ i = .int .i64 k ∧ IsBd w.heap.size w.heap.size (Lib.byteCells (sndL C (l.take k))) wr ∧ Below w.heap.size W wr) (fun i _ => l.length - (intOf i).toNat)
    case atStart => exact ⟨0, by omega, rfl, HF.out, Below.refl _ _⟩
    case round =>
      obtain ⟨k, hk, rfl, h1, h2⟩ := hrel
      have IB := Lib.hid h1
      have B1 := Lib.hid h2
      clear h1 h2
      by_cases hlt : k < l.length
      · obtain ⟨b, o, x, hAm, hx, hc⟩ := (HM.out.below B1.out (Nat.le_refl _)).int k hlt
        have hix := List.all_eq_true.1 (show l.all (okI C.length) = true from HI.out) x (List.mem_of_getElem? hx.out)
        unfold okI at hix
        rw [Bool.and_eq_true, decide_eq_true_eq, decide_eq_true_eq] at hix
        obtain ⟨x, rfl⟩ : ∃ n : Nat, x = (n : Int) := ⟨x.toNat, by omega⟩
        obtain ⟨b2, o2, s, hA2, hs, hc2⟩ := (HR.out.below B1.out (Nat.le_refl _)).txt x (by omega)
        have HX := Lib.hid (snd_step hx.out (show C[((x : Nat) : Int).toNat]? = some s by rw [Int.toNat_natCast]; exact hs.out))
        have hts := snd_len HV.out (l.take k)
        have hlt2 : (l.take k).length ≤ 400 := by rw [List.length_take]; omega
        have hss := (sgB_iff.1 (HV.out.sg s (List.mem_of_getElem? hs.out))).2.1
        have HWS := Lib.hid (WriteString_any w.heap.size w.heap.size (sndL C (l.take k)) s wr IB.out (by omega) (by have := B1.out.size; have := HSZ.out; omega))
        rw [HX.out] at HWS
        have H1 := Lib.hid hAm
        have H2 := Lib.hid hA2
        subst hAm hA2
        have b2' : (0 : Int) ≤ (x : Int) := by omega
        have b3 : (x : Int) < (C.length : Int) := by omega
        clear hix hts hlt2
        go_wp2_with fail
        refine HWS.out.mono ?_
        rintro e w2 ⟨rfl, hib, hb⟩
        have IB2 := Lib.hid hib
        have B2 := Lib.hid (B1.out.trans hb)
        clear hib hb
        go_wp2_with fail
        go_roundw
        case rel => exact ⟨k + 1, by omega, by go_num, IB2.out, B2.out⟩
        case measure => simp [intOf]; omega
      · have hks : k = l.length := by omega
        have HS := Lib.hid (BString_any w.heap.size w.heap.size (sndL C l) wr (by have := IB.out; rw [hks, List.take_length] at this; exact this) HNE.out)
        subst hks
        go_wp2_with fail
        refine HS.out.mono ?_
        rintro e w2 ⟨rfl, hb⟩
        have B2 := Lib.hid (BW.out.trans (B1.out.trans hb))
        clear hb
        go_wp2_with fail
        go_ret
        exact ⟨rfl, B2.out⟩
/-- The first error of a code and of messages in it. -/
def cmE (C : List ByteArray) (ms : List Mr) : Int := if vE C = 0 then mE C ms else vE C
set_option maxRecDepth 8000 in
set_option maxHeartbeats 2000000 in
theorem checkMessages_any (A Am : Option Addr) (c cm : Nat) (C : List ByteArray) (ms : List Mr) (w : World) (hr : Rd w w.heap.size A (txts C)) (hs : Sz C) (hl : C.length ≤ c) (hc : c ≤ 9223372036854775807) (hm : RdM w Am ms) (h2 : ms.length ≤ 2) :
    Calls Try.prog 51 #[.slice A C.length c, .slice Am ms.length cm] w fun e w' => e = .returned (.int .i64 (cmE C ms)) ∧ Below w.heap.size w w' := by
  have HVA := Lib.hid (Validate_any A c C w hr hs hl hc)
  have HM0 := Lib.hid hm
  clear hr hs hm
  by_cases hv : vE C = 0
  · have HE := Lib.hid (show cmE C ms = mE C ms from if_pos hv)
    rw [hv] at HVA
    clear hv
    go_enter Try.func51, Try.ntmps51
    go_wp2_with fail
    refine HVA.out.mono ?_
    rintro e w1 ⟨rfl, hb⟩
    have B1 := Lib.hid hb
    have HM := Lib.hid (show RdM w1 Am ms from ⟨(HM0.out.o.below hb (Nat.le_refl _)).more hb.size, fun m hm => ((HM0.out.r m hm).below hb (Nat.le_refl _)).more hb.size, HM0.out.z⟩)
    clear hb
    go_wp2_with fail
    go_loop [19] (fun i => ∃ k : Nat, k ≤ ms.length ∧ i = .int .i64 k ∧ bigB (ms.take k) = false) (fun i => ms.length - (intOf i).toNat)
    case atStart => exact ⟨0, by omega, rfl, by simp [bigB]⟩
    case round =>
      obtain ⟨k, hk, rfl, hall⟩ := hrel
      have HA := Lib.hid hall
      clear hall
      by_cases hlt : k < ms.length
      · obtain ⟨b, o, m, hAm, hd, hcc, _, hz⟩ := HM.out.at_ k hlt
        subst hAm
        by_cases hbig : 400 < m.l.length
        · have HX := Lib.hid (HE.out.trans (show mE C ms = 3 from if_pos (big_hit hd.out hbig)))
          have e1 : decide ((400 : Int) < (m.l.length : Int)) = true := by simp; omega
          have e2 : decide (400 < m.l.length) = true := by simpa using hbig
          clear hbig
          go_wp2_with fail
          go_ret
          exact ⟨by rw [HX.out]; rfl, B1.out⟩
        · have HX := Lib.hid (big_next hd.out hbig HA.out)
          have e1 : decide ((400 : Int) < (m.l.length : Int)) = false := by simp; omega
          have e2 : decide (400 < m.l.length) = false := by simpa using hbig
          clear hbig
          go_wp2_with fail
          go_round
          case rel => exact ⟨k + 1, by omega, by go_num, HX.out⟩
          case measure => simp [intOf]; omega
      · have hks : k = ms.length := by omega
        have HB := Lib.hid (show bigB ms = false by have := HA.out; rw [hks, List.take_length] at this; exact this)
        subst hks
        go_wp2_with fail
        go_loop [29] (fun i => ∃ k : Nat, k ≤ ms.length ∧ i = .int .i64 k ∧ ((ms.take k).all fun m => idxB C m.l) = true) (fun i => ms.length - (intOf i).toNat)
        case atStart => exact ⟨0, by omega, rfl, by simp⟩
        case round =>
          obtain ⟨k, hk, rfl, hall⟩ := hrel
          have HC := Lib.hid hall
          clear hall
          by_cases hlt : k < ms.length
          · obtain ⟨b, o, m, hAm, hd, hcc, hrm, hz⟩ := HM.out.at_ k hlt
            have HRM := Lib.hid hrm
            have HAM := Lib.hid hAm
            have hm400 : m.l.length ≤ 400 := by
              rcases Nat.lt_or_ge 400 m.l.length with h | h
              · have h1 := big_hit hd.out h
                rw [HB.out] at h1
                cases h1
              · exact h
            subst hAm
            clear hrm
            go_wp2_with fail
            go_loop [35] (fun i => ∃ j : Nat, j ≤ m.l.length ∧ i = .int .i64 j ∧ idxB C (m.l.take j) = true) (fun i => m.l.length - (intOf i).toNat)
            case atStart => exact ⟨0, by omega, rfl, by simp [idxB]⟩
            case round =>
              obtain ⟨j, hj, rfl, hall⟩ := hrel
              have HJ := Lib.hid hall
              clear hall
              by_cases hlt2 : j < m.l.length
              · obtain ⟨b2, o2, x, hA2, hx, hc2⟩ := HRM.out.int j hlt2
                rw [hA2]
                by_cases h0 : x < 0
                · have e1 : decide (x < 0) = true := by simpa using h0
                  have HX := Lib.hid (HE.out.trans (mE_bad HB.out hd.out (idx_hit (C := C) hx.out (by unfold okI; rw [decide_eq_false (show ¬ 0 ≤ x by omega)]; rfl))))
                  clear h0
                  go_wp2_with fail
                  go_ret
                  exact ⟨by rw [HX.out]; rfl, B1.out⟩
                · have e1 : decide (x < 0) = false := by simpa using h0
                  by_cases hn : (C.length : Int) ≤ x
                  · have e2 : decide ((C.length : Int) ≤ x) = true := by simpa using hn
                    have HX := Lib.hid (HE.out.trans (mE_bad HB.out hd.out (idx_hit (C := C) hx.out (by unfold okI; rw [decide_eq_false (show ¬ x < (C.length : Int) by omega), Bool.and_false]))))
                    clear h0 hn
                    go_wp2_with fail
                    go_ret
                    exact ⟨by rw [HX.out]; rfl, B1.out⟩
                  · have e2 : decide ((C.length : Int) ≤ x) = false := by simpa using hn
                    have HX := Lib.hid (idx_next (C := C) hx.out (by unfold okI; rw [decide_eq_true (show 0 ≤ x by omega), decide_eq_true (show x < (C.length : Int) by omega)]; rfl) HJ.out)
                    clear h0 hn
                    go_wp2_with fail
                    go_round
                    case rel => exact ⟨j + 1, by omega, by go_num, HX.out⟩
                    case measure => simp [intOf]; omega
              · have hjs : j = m.l.length := by omega
                have HX := Lib.hid (all_next hd.out (by have := HJ.out; rw [hjs, List.take_length] at this; exact this) HC.out)
                subst hjs
                go_wp2_with fail
                go_round
                case rel => exact ⟨k + 1, by omega, by go_num, HX.out⟩
                case measure => simp [intOf]; omega
          · have hks : k = ms.length := by omega
            have HX := Lib.hid (HE.out.trans (show mE C ms = 0 by
              have := HC.out
              rw [hks, List.take_length] at this
              unfold mE
              rw [if_neg (by rw [HB.out]; simp), if_pos this]))
            subst hks
            go_wp2_with fail
            go_ret
            exact ⟨by rw [HX.out]; rfl, B1.out⟩
  · have e1 : (vE C != 0) = true := by simpa using hv
    have HE := Lib.hid (show cmE C ms = vE C from if_neg hv)
    clear hv
    go_enter Try.func51, Try.ntmps51
    go_wp2_with fail
    refine HVA.out.mono ?_
    rintro e w1 ⟨rfl, hb⟩
    go_wp2_with fail
    go_ret
    exact ⟨by rw [HE.out]; rfl, hb⟩
end Go.Proofs.Ytjongjndoaojnaa

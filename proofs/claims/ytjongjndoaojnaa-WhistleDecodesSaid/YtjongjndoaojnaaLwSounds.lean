/-
  WhistleSounds: the walks of Sound of both sides, and the law's. Conditions: the code and the message can be read.
-/
import Derived.Test.YtjongjndoaojnaaBd3
namespace Go.Proofs.Ytjongjndoaojnaa
open Go.RowKit
set_option linter.unusedVariables false

def snE (C : List ByteArray) (l : List Int) : Int := cmE C [⟨none, 0, l⟩]
def snS (C : List ByteArray) (l : List Int) : ByteArray := if snE C l = 0 then ofL (sndL C l) else ⟨#[]⟩
theorem snE_zero {C : List ByteArray} {l : List Int} (h : snE C l = 0) : vE C = 0 ∧ l.length ≤ 400 ∧ idxB C l = true := by
  unfold snE cmE at h
  by_cases hv : vE C = 0
  · rw [if_pos hv] at h
    refine ⟨hv, ?_⟩
    unfold mE at h
    by_cases h1 : bigB [⟨none, 0, l⟩] = true
    · rw [if_pos h1] at h; cases h
    · rw [if_neg h1] at h
      by_cases h2 : ([(⟨none, 0, l⟩ : Mr)].all fun m => idxB C m.l) = true
      · simp [bigB] at h1
        simp at h2
        exact ⟨h1, h2⟩
      · rw [if_neg h2] at h; cases h
  · rw [if_neg hv] at h
    exact absurd h hv
theorem rdm_one {w : World} {A : Option Addr} {c : Nat} {l : List Int} {W : World} (hm : Rd W W.heap.size A (ints l)) (hl : l.length ≤ 9223372036854775807) (hg : W.heap[w.heap.size]? = some (.cells #[.slice A l.length c] 23 (0, 0))) : RdM W (some ⟨w.heap.size, 0, none⟩) [⟨A, c, l⟩] :=
  ⟨Rd.of_block (by exact hg), fun m hm2 => by rw [List.mem_singleton] at hm2; subst hm2; exact hm, fun m hm2 => by rw [List.mem_singleton] at hm2; subst hm2; exact hl⟩
set_option maxRecDepth 8000 in
set_option maxHeartbeats 2000000 in
theorem Sound_any (A Am : Option Addr) (c cm : Nat) (C : List ByteArray) (l : List Int) (w : World) (hr : Rd w w.heap.size A (txts C)) (hs : Sz C) (hl : C.length ≤ c) (hc : c ≤ 9223372036854775807) (hm : Rd w w.heap.size Am (ints l)) (hlm : l.length ≤ 9223372036854775807) :
    Calls Try.prog 18 #[.slice A C.length c, .slice Am l.length cm] w fun e w' => e = .returned (.tuple #[.string (snS C l), .int .i64 (snE C l)]) ∧ Below w.heap.size w w' := by
  obtain ⟨W, hW, hg, hsz, hbw⟩ := one_blk w #[.slice Am l.length cm] 23
  have HW := Lib.hid hW
  have BW := Lib.hid hbw
  have HR := Lib.hid (hr.go (B0 := 0) hbw)
  have HM := Lib.hid (hm.go (B0 := 0) hbw)
  have HC := Lib.hid (checkMessages_any A (some ⟨w.heap.size, 0, none⟩) c 1 C [⟨Am, cm, l⟩] W HR.out hs hl hc (rdm_one HM.out hlm hg) (by simp))
  rw [show cmE C [⟨Am, cm, l⟩] = snE C l from rfl] at HC
  clear hW hg hsz hbw hr hm hs
  by_cases hz : snE C l = 0
  · obtain ⟨hv, h4, hi⟩ := snE_zero hz
    have HS := Lib.hid (show snS C l = ofL (sndL C l) from if_pos hz)
    have HE := Lib.hid hz
    rw [hz] at HC
    have HO := Lib.hid (fun w h h' => soundOf_any A Am c cm C l w (vE_ok hv) h h' hi h4)
    clear hz hv h4 hi
    go_enter Try.func18, Try.ntmps18
    go_wp2_with fail
    rw [HW.out]
    refine HC.out.mono ?_
    rintro e w1 ⟨rfl, hb⟩
    have B1 := Lib.hid (BW.out.trans (hb.mono BW.out.size))
    have R1 := Lib.hid (HR.out.go (B0 := 0) hb)
    have M1 := Lib.hid (HM.out.go (B0 := 0) hb)
    clear hb
    go_wp2_with fail
    refine (HO.out w1 R1.out M1.out).mono ?_
    rintro e w2 ⟨rfl, hb⟩
    have B2 := Lib.hid (B1.out.trans (hb.mono B1.out.size))
    clear hb
    go_wp2_with fail
    go_ret2
    exact ⟨by rw [HS.out, HE.out]; rfl, B2.out⟩
  · have e1 : (snE C l != 0) = true := by simpa using hz
    have HS := Lib.hid (show snS C l = ⟨#[]⟩ from if_neg hz)
    clear hz
    go_enter Try.func18, Try.ntmps18
    go_wp2_with fail
    rw [HW.out]
    refine HC.out.mono ?_
    rintro e w1 ⟨rfl, hb⟩
    have B1 := Lib.hid (BW.out.trans (hb.mono BW.out.size))
    clear hb
    go_wp2_with fail
    go_ret2
    exact ⟨by rw [HS.out]; rfl, B1.out⟩
set_option maxRecDepth 8000 in
set_option maxHeartbeats 2000000 in
theorem rSound_any (A Am : Option Addr) (c cm : Nat) (C : List ByteArray) (l : List Int) (w : World) (hr : Rd w w.heap.size A (txts C)) (hs : Sz C) (hl : C.length ≤ 9223372036854775807) (hm : Rd w w.heap.size Am (ints l)) (hlm : l.length ≤ 9223372036854775807) :
    Calls Try.prog 19 #[.slice A C.length c, .slice Am l.length cm] w fun e w' => e = .returned (.tuple #[.string (snS C l), .int .i64 (snE C l)]) ∧ Below w.heap.size w w' := by
  have HVA := Lib.hid (rValidate_any A c C w hr hs hl)
  have HR0 := Lib.hid hr
  have HM0 := Lib.hid hm
  clear hr hm hs
  by_cases hv : vE C = 0
  · rw [hv] at HVA
    have HME := Lib.hid (show snE C l = mE C [⟨none, 0, l⟩] from if_pos hv)
    have HVd := Lib.hid (vE_ok hv)
    have hzz : snE C l = 0 → l.length ≤ 400 ∧ idxB C l = true := fun h => (snE_zero h).2
    have HZZ := Lib.hid hzz
    clear hv hzz
    go_enter Try.func19, Try.ntmps19
    go_wp2_with fail
    refine HVA.out.mono ?_
    rintro e w1 ⟨rfl, m, hmm⟩
    have hb1 : Below w.heap.size w w1 := by rw [hmm]; exact bdN (Below.refl _ _) m
    obtain ⟨W, hW, hg, hsz, hbw⟩ := one_blk w1 #[.slice Am l.length cm] 23
    have HW := Lib.hid hW
    have BW := Lib.hid (hb1.trans (hbw.mono hb1.size))
    have HR := Lib.hid ((HR0.out.go (B0 := 0) hb1).go (B0 := 0) hbw)
    have HM := Lib.hid ((HM0.out.go (B0 := 0) hb1).go (B0 := 0) hbw)
    have HC := Lib.hid (messageOK_any A (some ⟨w1.heap.size, 0, none⟩) c 1 C [⟨Am, cm, l⟩] W hl (rdm_one HM.out hlm hg) (by simp))
    rw [show mE C [⟨Am, cm, l⟩] = snE C l from HME.out.symm] at HC
    clear hmm hb1 hW hg hsz hbw HME
    by_cases hz : snE C l = 0
    · obtain ⟨h4, hi⟩ := HZZ.out hz
      have HS := Lib.hid (show snS C l = ofL (sndL C l) from if_pos hz)
      have HE := Lib.hid hz
      rw [hz] at HC
      have HO := Lib.hid (sound_any A Am c cm C l W HVd.out HR.out HM.out hi h4)
      clear hz h4 hi
      go_wp2_with fail
      rw [HW.out]
      refine HC.out.mono ?_
      rintro e w' ⟨rfl, rfl⟩
      go_wp2_with fail
      refine HO.out.mono ?_
      rintro e w' ⟨rfl, rfl⟩
      go_wp2_with fail
      go_ret2
      exact ⟨by rw [HS.out, HE.out]; rfl, BW.out⟩
    · have e1 : (snE C l != 0) = true := by simpa using hz
      have HS := Lib.hid (show snS C l = ⟨#[]⟩ from if_neg hz)
      clear hz
      go_wp2_with fail
      rw [HW.out]
      refine HC.out.mono ?_
      rintro e w' ⟨rfl, rfl⟩
      go_wp2_with fail
      go_ret2
      exact ⟨by rw [HS.out]; rfl, BW.out⟩
  · have e1 : (vE C != 0) = true := by simpa using hv
    have HSE := Lib.hid (show snE C l = vE C from if_neg hv)
    have HS := Lib.hid (show snS C l = ⟨#[]⟩ from if_neg (by rw [HSE.out]; exact hv))
    clear hv
    go_enter Try.func19, Try.ntmps19
    go_wp2_with fail
    refine HVA.out.mono ?_
    rintro e w1 ⟨rfl, m, rfl⟩
    go_wp2_with fail
    go_ret2
    exact ⟨by rw [HS.out, HSE.out]; rfl, bdN (Below.refl _ _) m⟩
set_option maxRecDepth 8000 in
set_option maxHeartbeats 4000000 in
theorem Sounds_walk (A Am : Option Addr) (c cm : Nat) (C : List ByteArray) (l : List Int) (w : World) (hr : Rd w w.heap.size A (txts C)) (hs : Sz C) (hl : C.length ≤ c) (hc : c ≤ maxLen) (hm : Rd w w.heap.size Am (ints l)) (hlm : l.length ≤ cm) (hcm : cm ≤ maxLen) :
    Calls Try.prog 3 #[.slice A C.length c, .slice Am l.length cm] w fun e w' => e = .returned (.bool true) ∧ Below w.heap.size w w' := by
  have hc' : c ≤ 9223372036854775807 := by unfold maxLen at hc; omega
  have hlm' : l.length ≤ 9223372036854775807 := by unfold maxLen at hcm; omega
  have HR := Lib.hid hr
  have HM := Lib.hid hm
  have HS := Lib.hid hs
  have HL := Lib.hid (Long_any A c C w hr (by omega))
  have HMY := Lib.hid (many_any Am l.length cm w hlm')
  have HKN := Lib.hid known_any
  clear hr hs hm
  cases hlo : longB C
  · rw [hlo] at HL
    clear hlo
    cases hmy : decide (500 < l.length)
    · rw [hmy] at HMY
      clear hmy
      have H1 := Lib.hid (fun w h h' => Sound_any A Am c cm C l w h HS.out hl hc' h' hlm')
      have H2 := Lib.hid (fun w h h' => rSound_any A Am c cm C l w h HS.out (Nat.le_trans hl hc') h' hlm')
      have H3 := Lib.hid (fun w h => Validate_any A c C w h HS.out hl hc')
      have H4 := Lib.hid (fun w h => rValidate_any A c C w h HS.out (Nat.le_trans hl hc'))
      generalize snS C l = sn at *
      generalize snE C l = se at *
      generalize vE C = v at *
      have e0 : (v == v) = true := by simp
      have e1 : (se == se) = true := by simp
      have e2 : (sn.toList == sn.toList) = true := by simp
      go_enter Try.func3, Try.ntmps3
      go_wp2_with fail
      refine (HL.out).mono ?_
      rintro e w' ⟨rfl, rfl⟩
      go_wp2_with fail
      refine HMY.out.mono ?_
      rintro e w' ⟨rfl, rfl⟩
      go_wp2_with fail
      refine (H1.out _ HR.out HM.out).mono ?_
      rintro e w1 ⟨rfl, hb⟩
      have B1 := Lib.hid hb
      have R1 := Lib.hid (HR.out.go (B0 := 0) hb)
      have M1 := Lib.hid (HM.out.go (B0 := 0) hb)
      clear hb
      go_wp2_with fail
      refine (H2.out w1 R1.out M1.out).mono ?_
      rintro e w2 ⟨rfl, hb⟩
      have B2 := Lib.hid (B1.out.trans (hb.mono B1.out.size))
      have R2 := Lib.hid (R1.out.go (B0 := 0) hb)
      clear hb
      go_wp2_with fail
      refine (H3.out w2 R2.out).mono ?_
      rintro e w3 ⟨rfl, hb⟩
      have B3 := Lib.hid (B2.out.trans (hb.mono B2.out.size))
      have R3 := Lib.hid (R2.out.go (B0 := 0) hb)
      clear hb
      go_wp2_with fail
      refine (H4.out w3 R3.out).mono ?_
      rintro e w4 ⟨rfl, m, hmm⟩
      have hb : Below w3.heap.size w3 w4 := bd_drew hmm
      have B4 := Lib.hid (B3.out.trans (hb.mono B3.out.size))
      clear hb hmm
      go_wp2_with fail
      refine (HKN.out w4).mono ?_
      rintro e w8 ⟨rfl, hb⟩
      have B8 := Lib.hid (B4.out.trans (hb.mono B4.out.size))
      clear hb
      go_wp2_with fail
      go_ret
      exact ⟨rfl, B8.out⟩
    · rw [hmy] at HMY
      clear hmy
      go_enter Try.func3, Try.ntmps3
      go_wp2_with fail
      refine (HL.out).mono ?_
      rintro e w' ⟨rfl, rfl⟩
      go_wp2_with fail
      refine HMY.out.mono ?_
      rintro e w' ⟨rfl, rfl⟩
      go_wp2_with fail
      refine (HKN.out _).mono ?_
      rintro e w8 ⟨rfl, hb⟩
      go_wp2_with fail
      go_ret
      exact ⟨rfl, hb⟩
  · rw [hlo] at HL
    clear hlo
    go_enter Try.func3, Try.ntmps3
    go_wp2_with fail
    refine (HL.out).mono ?_
    rintro e w' ⟨rfl, rfl⟩
    go_wp2_with fail
    refine (HKN.out w).mono ?_
    rintro e w8 ⟨rfl, hb⟩
    go_wp2_with fail
    go_ret
    exact ⟨rfl, hb⟩
end Go.Proofs.Ytjongjndoaojnaa

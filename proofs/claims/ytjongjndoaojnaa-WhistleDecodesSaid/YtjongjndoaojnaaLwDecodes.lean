/-
  WhistleDecodes: the walk. Condition: the code and the message can be read.
-/
import Derived.Test.YtjongjndoaojnaaDc6
namespace Go.Proofs.Ytjongjndoaojnaa
open Go.RowKit
set_option linter.unusedVariables false

set_option maxRecDepth 8000 in
set_option maxHeartbeats 4000000 in
theorem Decodes_walk (A Am : Option Addr) (c cm : Nat) (C : List ByteArray) (l : List Int) (w : World) (hr : Rd w w.heap.size A (txts C)) (hs : Sz C) (hl : C.length ≤ c) (hc : c ≤ maxLen) (hm : Rd w w.heap.size Am (ints l)) (hlm : l.length ≤ cm) (hcm : cm ≤ maxLen) :
    Calls Try.prog 5 #[.slice A C.length c, .slice Am l.length cm] w fun e w' => e = .returned (.bool true) ∧ Below w.heap.size w w' := by
  have hc' : c ≤ 9223372036854775807 := by unfold maxLen at hc; omega
  have hlm' : l.length ≤ 9223372036854775807 := by unfold maxLen at hcm; omega
  have HR := Lib.hid hr
  have HM := Lib.hid hm
  have HS := Lib.hid hs
  have HL := Lib.hid (Long_any A c C w hr (by omega))
  have HMY := Lib.hid (many_any Am l.length cm w hlm')
  have HKN := Lib.hid known_any
  clear hr hs hm
  cases hlo : longB C
  · rw [hlo] at HL
    clear hlo
    cases hmy : decide (500 < l.length)
    · rw [hmy] at HMY
      clear hmy
      have HSN := Lib.hid (Sound_any A Am c cm C l w HR.out HS.out hl hc' HM.out hlm')
      have HHD := Lib.hid (fun (t : ByteArray) (w : World) h ht => Heard_any A c C t w h HS.out hl hc' ht)
      have HD := Lib.hid (fun (t : ByteArray) (w : World) h ht => Decode_any A c C t w h HS.out hl hc' ht)
      have HIS := Lib.hid (fun (w : World) h => IsSafe_any A c C w h HS.out hl hc')
      have HDS := Lib.hid (fun h h2 => decodes (C := C) (l := l) h h2)
      by_cases hz : snE C l = 0
      · rw [hz] at HSN
        have HZ := Lib.hid hz
        clear hz
        by_cases h60 : 60 < (snS C l).size
        · have e1 : decide ((60 : Int) < ((snS C l).size : Int)) = true := by simp; omega
          have e2 : decide (60 < (snS C l).size) = true := by simpa using h60
          clear h60 HDS HHD HD HIS
          go_enter Try.func5, Try.ntmps5
          go_wp2_with fail
          refine (HL.out).mono ?_
          rintro e w' ⟨rfl, rfl⟩
          go_wp2_with fail
          refine HMY.out.mono ?_
          rintro e w' ⟨rfl, rfl⟩
          go_wp2_with fail
          refine HSN.out.mono ?_
          rintro e w1 ⟨rfl, hb⟩
          have B1 := Lib.hid hb
          clear hb
          go_wp2_with fail
          refine (HKN.out w1).mono ?_
          rintro e w8 ⟨rfl, hb⟩
          have B8 := Lib.hid (B1.out.trans (hb.mono B1.out.size))
          clear hb
          go_wp2_with fail
          go_ret
          exact ⟨rfl, B8.out⟩
        · have e1 : decide ((60 : Int) < ((snS C l).size : Int)) = false := by simp; omega
          have e2 : decide (60 < (snS C l).size) = false := by simpa using h60
          obtain ⟨ht, hv, hdb, hn0, hn60, hsf⟩ := HDS.out HZ.out (by omega)
          have ht' : (snS C l).size ≤ 9223372036854775807 := by omega
          have HTE := Lib.hid ht
          have HV0 := Lib.hid hv
          have HDB := Lib.hid hdb
          have HSF := Lib.hid hsf
          have H1 := Lib.hid (fun w h => HHD.out (snS C l) w h ht')
          have H2 := Lib.hid (fun w h => HD.out (snS C l) w h ht')
          unfold DecPost at H2
          rw [ht, hdb] at H2
          rw [ht] at H1
          rw [hv] at HIS
          have e3 : decide (((hdN C (snS C l) : Nat) : Int) < 1) = false := by simp; omega
          have e4 : decide (hdN C (snS C l) < 1) = false := by simp; omega
          clear h60 HDS HHD HD HTE HV0 HDB ht hv hdb hn0 hsf ht'
          generalize snS C l = t at *
          generalize hdN C t = n at *
          generalize dcL C t = dl at *
          generalize sfB C = sf at *
          go_enter Try.func5, Try.ntmps5
          go_wp2_with fail
          refine (HL.out).mono ?_
          rintro e w' ⟨rfl, rfl⟩
          go_wp2_with fail
          refine HMY.out.mono ?_
          rintro e w' ⟨rfl, rfl⟩
          go_wp2_with fail
          refine HSN.out.mono ?_
          rintro e w1 ⟨rfl, hb⟩
          have B1 := Lib.hid hb
          have R1 := Lib.hid (HR.out.go (B0 := 0) hb)
          have M1 := Lib.hid (HM.out.go (B0 := 0) hb)
          clear hb
          go_wp2_with fail
          refine (H1.out w1 R1.out).mono ?_
          rintro e w2 ⟨rfl, hb⟩
          have B2 := Lib.hid (B1.out.trans (hb.mono B1.out.size))
          have R2 := Lib.hid (R1.out.go (B0 := 0) hb)
          have M2 := Lib.hid (M1.out.go (B0 := 0) hb)
          clear hb
          go_wp2_with fail
          refine (H2.out w2 R2.out).mono ?_
          rintro e w3 ⟨A1, c1, rfl, hm, _, hb⟩
          have B3 := Lib.hid (B2.out.trans (hb.mono B2.out.size))
          have R3 := Lib.hid (R2.out.go (B0 := 0) hb)
          have M3 := Lib.hid (M2.out.go (B0 := 0) hb)
          have D3 := Lib.hid hm
          clear hb hm
          go_wp2_with fail
          refine (HIS.out w3 R3.out).mono ?_
          rintro e w4 ⟨rfl, hb⟩
          have B4 := Lib.hid (B3.out.trans (hb.mono B3.out.size))
          have M4 := Lib.hid (M3.out.go (B0 := 0) hb)
          have D4 := Lib.hid (D3.out.go (B0 := 0) hb)
          clear hb
          cases sf
          · have HKK := Lib.hid (HKN.out w4)
            clear HSF
            go_wp2_with fail
            refine HKK.out.mono ?_
            rintro e w8 ⟨rfl, hb⟩
            have B8 := Lib.hid (B4.out.trans (hb.mono B4.out.size))
            clear hb
            go_wp2_with fail
            go_ret
            exact ⟨rfl, B8.out⟩
          · obtain ⟨h1, h2⟩ := HSF.out rfl
            subst h1 h2
            have HSI := Lib.hid (SameInts_any A1 Am c1 cm dl dl w4 D4.out M4.out (by omega) (by omega))
            rw [decide_eq_true (show dl = dl from rfl)] at HSI
            clear HSF
            go_wp2_with fail
            refine HSI.out.mono ?_
            rintro e w5 ⟨rfl, m, hm⟩
            have B5 := Lib.hid (show Below w.heap.size w w5 by rw [hm]; exact bdN B4.out m)
            clear hm
            go_wp2_with fail
            refine (HKN.out w5).mono ?_
            rintro e w8 ⟨rfl, hb⟩
            have B8 := Lib.hid (B5.out.trans (hb.mono B5.out.size))
            clear hb
            go_wp2_with fail
            go_ret
            exact ⟨rfl, B8.out⟩
      · have e1 : (snE C l != 0) = true := by simpa using hz
        clear hz HDS HHD HD HIS
        go_enter Try.func5, Try.ntmps5
        go_wp2_with fail
        refine (HL.out).mono ?_
        rintro e w' ⟨rfl, rfl⟩
        go_wp2_with fail
        refine HMY.out.mono ?_
        rintro e w' ⟨rfl, rfl⟩
        go_wp2_with fail
        refine HSN.out.mono ?_
        rintro e w1 ⟨rfl, hb⟩
        have B1 := Lib.hid hb
        clear hb
        go_wp2_with fail
        refine (HKN.out w1).mono ?_
        rintro e w8 ⟨rfl, hb⟩
        have B8 := Lib.hid (B1.out.trans (hb.mono B1.out.size))
        clear hb
        go_wp2_with fail
        go_ret
        exact ⟨rfl, B8.out⟩
    · rw [hmy] at HMY
      clear hmy
      go_enter Try.func5, Try.ntmps5
      go_wp2_with fail
      refine (HL.out).mono ?_
      rintro e w' ⟨rfl, rfl⟩
      go_wp2_with fail
      refine HMY.out.mono ?_
      rintro e w' ⟨rfl, rfl⟩
      go_wp2_with fail
      refine (HKN.out w).mono ?_
      rintro e w8 ⟨rfl, hb⟩
      go_wp2_with fail
      go_ret
      exact ⟨rfl, hb⟩
  · rw [hlo] at HL
    clear hlo
    go_enter Try.func5, Try.ntmps5
    go_wp2_with fail
    refine (HL.out).mono ?_
    rintro e w' ⟨rfl, rfl⟩
    go_wp2_with fail
    refine (HKN.out w).mono ?_
    rintro e w8 ⟨rfl, hb⟩
    go_wp2_with fail
    go_ret
    exact ⟨rfl, hb⟩
end Go.Proofs.Ytjongjndoaojnaa

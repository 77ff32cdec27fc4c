/-
  WhistleHears: the walk. Condition: the code and the text can be read.
-/
import Derived.Test.YtjongjndoaojnaaDc5
import Derived.Test.YtjongjndoaojnaaLwSounds
import Derived.Test.YtjongjndoaojnaaKw1
namespace Go.Proofs.Ytjongjndoaojnaa
open Go.RowKit
set_option linter.unusedVariables false

theorem snd_dc {C : List ByteArray} (hC : ∀ s ∈ C, 1 ≤ s.size) : ∀ (n : Nat) (u : List UInt8), u.length ≤ n → ways C u ≠ 0 → sndL C (dcI C u) = u ∧ idxB C (dcI C u) = true := by
  intro n
  induction n with
  | zero =>
    intro u h _
    have hu : u = [] := List.eq_nil_of_length_eq_zero (by omega)
    subst hu
    exact ⟨rfl, rfl⟩
  | succ n ih =>
    intro u h hw
    by_cases hu : u = []
    · subst hu
      exact ⟨rfl, rfl⟩
    · obtain ⟨i, hi⟩ := fdx_of_ways hC hu hw
      obtain ⟨s, hs, hf, _⟩ := fdx_fit hi
      obtain ⟨hp, hw2⟩ := fit_iff.1 hf
      have h1 := hC s (List.mem_of_getElem? hs)
      have h4 := List.length_pos_iff.2 hu
      obtain ⟨i1, i2⟩ := ih (u.drop s.size) (by rw [List.length_drop]; omega) hw2
      rw [dcI_cons hC hi hs]
      have e : ((i : Int) :: dcI C (u.drop s.size)) = [(i : Int)] ++ dcI C (u.drop s.size) := rfl
      rw [e, sndL_append, sndL_one, sgAt_of hs, i1, idxB_append, i2, idxB_one (List.getElem?_eq_some_iff.1 hs).1]
      refine ⟨?_, rfl⟩
      have := pre_drop hp
      rw [bl_len] at this
      exact this.symm
theorem dec_sound {C : List ByteArray} {t : ByteArray} (h : dcB C t = true) : snE C (dcL C t) = 0 ∧ snS C (dcL C t) = t ∧ 0 < hdN C t := by
  obtain ⟨hz, hw⟩ := of_decide_eq_true h
  obtain ⟨hv, ht60, _⟩ := txE_zero hz
  have hV := vE_ok hv
  have hC : ∀ s ∈ C, 1 ≤ s.size := fun s hs => (sgB_iff.1 (hV.sg s hs)).1
  obtain ⟨h1, h2⟩ := snd_dc hC (bl t).length (bl t) (Nat.le_refl _) hw
  have hl := dc_len hC (bl t).length (bl t) (Nat.le_refl _)
  have hL : dcL C t = dcI C (bl t) := if_pos hz
  have hn : (dcI C (bl t)).length ≤ 60 := by
    unfold dcI
    rw [List.length_map]
    rw [bl_len] at hl
    omega
  have hE : snE C (dcL C t) = 0 := by
    unfold snE cmE
    rw [if_pos hv, hL]
    unfold mE
    rw [if_neg (by unfold bigB; simp; omega), if_pos (by simp [h2])]
  refine ⟨hE, ?_, ?_⟩
  · unfold snS
    rw [if_pos hE, hL, h1]
    exact bl_inj (bl_ofL _)
  · unfold hdN
    rw [if_pos hz]
    omega
set_option maxRecDepth 8000 in
set_option maxHeartbeats 4000000 in
theorem Hears_walk (A : Option Addr) (c : Nat) (C : List ByteArray) (t : ByteArray) (w : World) (hr : Rd w w.heap.size A (txts C)) (hs : Sz C) (hl : C.length ≤ c) (hc : c ≤ maxLen) (ht : t.size ≤ maxLen) :
    Calls Try.prog 4 #[.slice A C.length c, .string t] w fun e w' => e = .returned (.bool true) ∧ Below w.heap.size w w' := by
  have hc' : c ≤ 9223372036854775807 := by unfold maxLen at hc; omega
  have ht' : t.size ≤ 9223372036854775807 := by unfold maxLen at ht; omega
  have HR := Lib.hid hr
  have HS := Lib.hid hs
  have HL := Lib.hid (Long_any A c C w hr (by omega))
  have HKN := Lib.hid known_any
  clear hr hs
  cases hlo : longB C
  · rw [hlo] at HL
    clear hlo
    by_cases h200 : 200 < t.size
    · have e1 : decide ((200 : Int) < (t.size : Int)) = true := by simp; omega
      have e2 : decide (200 < t.size) = true := by simpa using h200
      clear h200
      go_enter Try.func4, Try.ntmps4
      go_wp2_with fail
      refine (HL.out).mono ?_
      rintro e w' ⟨rfl, rfl⟩
      go_wp2_with fail
      refine (HKN.out _).mono ?_
      rintro e w8 ⟨rfl, hb⟩
      go_wp2_with fail
      go_ret
      exact ⟨rfl, hb⟩
    · have e1 : decide ((200 : Int) < (t.size : Int)) = false := by simp; omega
      have e2 : decide (200 < t.size) = false := by simpa using h200
      have HHD := Lib.hid (fun w h => Heard_any A c C t w h HS.out hl hc' ht')
      have HHR := Lib.hid (fun w h => rHeard_any A c C t w h HS.out (by omega) ht')
      have HD := Lib.hid (fun w h => Decode_any A c C t w h HS.out hl hc' ht')
      have HDR := Lib.hid (fun w h => rDecode_any A c C t w h HS.out (by omega) ht')
      have HSN := Lib.hid (fun (A1 : Option Addr) (c1 : Nat) w h hm hlm => Sound_any A A1 c c1 C (dcL C t) w h HS.out hl hc' hm hlm)
      have HDS := Lib.hid (fun h => dec_sound (C := C) (t := t) h)
      clear h200
      go_enter Try.func4, Try.ntmps4
      go_wp2_with fail
      refine (HL.out).mono ?_
      rintro e w' ⟨rfl, rfl⟩
      go_wp2_with fail
      refine (HHD.out w HR.out).mono ?_
      rintro e w1 ⟨rfl, hb⟩
      have B1 := Lib.hid hb
      have R1 := Lib.hid (HR.out.go (B0 := 0) hb)
      clear hb
      go_wp2_with fail
      refine (HHR.out w1 R1.out).mono ?_
      rintro e w2 ⟨rfl, hb⟩
      have B2 := Lib.hid (B1.out.trans (hb.mono B1.out.size))
      have R2 := Lib.hid (R1.out.go (B0 := 0) hb)
      clear hb
      go_wp2_with fail
      refine (HD.out w2 R2.out).mono ?_
      rintro e w3 ⟨A1, c1, rfl, hm, hn60, hb⟩
      have B3 := Lib.hid (B2.out.trans (hb.mono B2.out.size))
      have R3 := Lib.hid (R2.out.go (B0 := 0) hb)
      have M3 := Lib.hid hm
      clear hb hm
      go_wp2_with fail
      refine (HDR.out w3 R3.out).mono ?_
      rintro e w4 ⟨A2, c2, rfl, hm, _, hb⟩
      have B4 := Lib.hid (B3.out.trans (hb.mono B3.out.size))
      have R4 := Lib.hid (R3.out.go (B0 := 0) hb)
      have M4 := Lib.hid (M3.out.go (B0 := 0) hb)
      have N4 := Lib.hid hm
      clear hb hm
      have HSI := Lib.hid (SameInts_any A1 A2 c1 c2 (dcL C t) (dcL C t) w4 M4.out N4.out (by omega) (by omega))
      rw [decide_eq_true (show dcL C t = dcL C t from rfl)] at HSI
      generalize hdN C t = hn at *
      generalize txE C t = te at *
      generalize snE C (dcL C t) = se at *
      generalize snS C (dcL C t) = ss at *
      generalize dcL C t = dl at *
      generalize dcB C t = db at *
      go_wp2_with fail
      refine HSI.out.mono ?_
      rintro e w5 ⟨rfl, m, hm⟩
      have B5 := Lib.hid (show Below w.heap.size w w5 by rw [hm]; exact bdN B4.out m)
      have hb : Below w4.heap.size w4 w5 := by rw [hm]; exact bdN (Below.refl _ _) m
      have R5 := Lib.hid (R4.out.go (B0 := 0) hb)
      have M5 := Lib.hid (M4.out.go (B0 := 0) hb)
      clear hb hm
      go_wp2_with fail
      refine (HSN.out A1 c1 w5 R5.out M5.out (by omega)).mono ?_
      rintro e w6 ⟨rfl, hb⟩
      have B6 := Lib.hid (B5.out.trans (hb.mono B5.out.size))
      clear hb
      have HKK := Lib.hid (HKN.out w6)
      cases db
      · clear HDS
        go_wp2_with fail
        refine HKK.out.mono ?_
        rintro e w8 ⟨rfl, hb⟩
        have B8 := Lib.hid (B6.out.trans (hb.mono B6.out.size))
        clear hb
        go_wp2_with fail
        go_ret
        exact ⟨rfl, B8.out⟩
      · obtain ⟨h1, h2, h3⟩ := HDS.out rfl
        subst h1 h2
        have e5 : decide ((0 : Int) < (hn : Int)) = true := by simp; omega
        have e6 : decide (0 < hn) = true := by simpa using h3
        clear h3
        go_wp2_with fail
        refine HKK.out.mono ?_
        rintro e w8 ⟨rfl, hb⟩
        have B8 := Lib.hid (B6.out.trans (hb.mono B6.out.size))
        clear hb
        go_wp2_with fail
        go_ret
        exact ⟨rfl, B8.out⟩
  · rw [hlo] at HL
    clear hlo
    go_enter Try.func4, Try.ntmps4
    go_wp2_with fail
    refine (HL.out).mono ?_
    rintro e w' ⟨rfl, rfl⟩
    go_wp2_with fail
    refine (HKN.out w).mono ?_
    rintro e w8 ⟨rfl, hb⟩
    go_wp2_with fail
    go_ret
    exact ⟨rfl, hb⟩
end Go.Proofs.Ytjongjndoaojnaa

/-
  The walks of Valid, IsWorn, fits, Fits of package ring and of the reference. Condition: 'TabsR' where package ring reads its tables.
-/
import Derived.Test.YtoenecgjiejljaaDoorVal
namespace Go.Proofs.YtoenecgjiejljaaDoor
open Go.RowKit
set_option linter.unusedVariables false

theorem Valid_any (s : ByteArray) (w : World) (hsz : s.size ≤ 1000) (ht : TabsR w) :
    Calls Tryd.prog 18 #[.string s] w fun e w' => e = .returned (.int .i64 (validE s)) ∧ Below w.heap.size w w' := by
  have HT := Lib.hid ht
  clear ht
  unfold validE
  cases hf : formB s false
  · have F := Lib.hid hf
    have H1 := Lib.hid (hasForm_any s false w (by omega))
    rw [hf] at H1
    clear hf
    go_enter Tryd.func18, Tryd.ntmps18
    go_wp2_with fail
    refine H1.out.mono ?_
    rintro e w' ⟨rfl, hb⟩
    go_wp2_with fail
    go_ret
    exact ⟨rfl, hb⟩
  · have F := Lib.hid hf
    have H1 := Lib.hid (hasForm_any s false w (by omega))
    rw [hf] at H1
    have hs := form_size hf
    have H2 := Lib.hid (fun w => cut_any s w (by omega) hsz)
    have H3 := Lib.hid (fun w => digitsOf_any (tailB s) w (by rw [size_tailB (by omega)]; omega) (form_tail hf))
    have HD := Lib.hid (dig_tail hf)
    have HG := Lib.hid (digs_tailB (s := s) (by omega))
    have HL := Lib.hid (tailK_length s 6)
    clear hf hs
    obtain ⟨S, hS⟩ : ∃ S, sumL (tailD s) = S := ⟨_, rfl⟩
    have HSS := Lib.hid hS
    rw [hS]
    clear hS
    cases hz : (S == 0)
    · have hz' : (S != 0) = true := by simpa using hz
      have hne : S ≠ 0 := by simpa using hz
      rw [if_neg hne]
      clear hne
      simp only [if_true]
      go_enter Tryd.func18, Tryd.ntmps18
      go_wp2_with fail
      refine H1.out.mono ?_
      rintro e w1 ⟨rfl, hb⟩
      have B1 := Lib.hid hb
      clear hb
      go_wp2_with fail
      refine (H2.out w1).mono ?_
      rintro e w' ⟨rfl, n, rfl⟩
      go_wp2_with fail
      refine (H3.out (w1.drewN n)).mono ?_
      rintro e w2 ⟨A, c, rfl, hr, hb⟩
      have R2 := Lib.hid hr
      have B2 := Lib.hid (show Below w.heap.size w w2 from B1.out.trans ((below_drewN (Below.refl _ _) n).trans hb |>.mono B1.out.size))
      clear hb hr
      rw [HG.out] at R2
      rw [HG.out, show (tailD s).length = 6 from HL.out]
      go_wp2_with fail
      refine (sum_n A 6 c (tailD s) w2 HL.out R2.out HD.out (by omega) (HT.out.below' B2.out)).mono ?_
      rintro e w' ⟨rfl, m, rfl⟩
      rw [HSS.out]
      go_wp2_with fail
      go_ret
      exact ⟨rfl, below_drewN B2.out m⟩
    · have hz' : (S != 0) = false := by simpa using hz
      have hne : S = 0 := by simpa using hz
      rw [if_pos hne]
      clear hne
      simp only [if_true]
      go_enter Tryd.func18, Tryd.ntmps18
      go_wp2_with fail
      refine H1.out.mono ?_
      rintro e w1 ⟨rfl, hb⟩
      have B1 := Lib.hid hb
      clear hb
      go_wp2_with fail
      refine (H2.out w1).mono ?_
      rintro e w' ⟨rfl, n, rfl⟩
      go_wp2_with fail
      refine (H3.out (w1.drewN n)).mono ?_
      rintro e w2 ⟨A, c, rfl, hr, hb⟩
      have R2 := Lib.hid hr
      have B2 := Lib.hid (show Below w.heap.size w w2 from B1.out.trans ((below_drewN (Below.refl _ _) n).trans hb |>.mono B1.out.size))
      clear hb hr
      rw [HG.out] at R2
      rw [HG.out, show (tailD s).length = 6 from HL.out]
      go_wp2_with fail
      refine (sum_n A 6 c (tailD s) w2 HL.out R2.out HD.out (by omega) (HT.out.below' B2.out)).mono ?_
      rintro e w' ⟨rfl, m, rfl⟩
      rw [HSS.out]
      go_wp2_with fail
      go_ret
      exact ⟨rfl, below_drewN B2.out m⟩
theorem rValid_any (s : ByteArray) (w : World) (hsz : s.size ≤ 1000) :
    Calls Tryd.prog 19 #[.string s] w fun e w' => e = .returned (.int .i64 (validE s)) ∧ Below w.heap.size w w' := by
  unfold validE
  cases hf : formB s false
  · have H1 := Lib.hid (formed_any s false w (by omega))
    rw [hf] at H1
    clear hf
    go_enter Tryd.func19, Tryd.ntmps19
    go_wp2_with fail
    refine H1.out.mono ?_
    rintro e w' ⟨rfl, rfl⟩
    go_wp2_with fail
    go_ret
    exact ⟨rfl, Below.refl _ _⟩
  · have H1 := Lib.hid (formed_any s false w (by omega))
    rw [hf] at H1
    have hs := form_size hf
    have H3 := Lib.hid (fun w => tail_any s w (by omega) (by omega))
    have HD := Lib.hid (dig_tail hf)
    have HL := Lib.hid (tailK_length s 6)
    clear hf hs
    obtain ⟨S, hS⟩ : ∃ S, sumL (tailD s) = S := ⟨_, rfl⟩
    have HSS := Lib.hid hS
    rw [hS]
    clear hS
    cases hz : (S == 0)
    · have hz' : (S != 0) = true := by simpa using hz
      have hne : S ≠ 0 := by simpa using hz
      rw [if_neg hne]
      clear hne
      simp only [if_true]
      go_enter Tryd.func19, Tryd.ntmps19
      go_wp2_with fail
      refine H1.out.mono ?_
      rintro e w' ⟨rfl, rfl⟩
      go_wp2_with fail
      refine (H3.out w).mono ?_
      rintro e w2 ⟨A, c, rfl, hr, hb⟩
      have R2 := Lib.hid hr
      have B2 := Lib.hid hb
      clear hb hr
      rw [show (tailD s).length = 6 from HL.out]
      go_wp2_with fail
      refine (rsum_is A 6 c (tailD s) S w2 HSS.out HL.out R2.out HD.out (by omega)).mono ?_
      rintro e w' ⟨rfl, rfl⟩
      go_wp2_with fail
      go_ret
      exact ⟨rfl, B2.out⟩
    · have hz' : (S != 0) = false := by simpa using hz
      have hne : S = 0 := by simpa using hz
      rw [if_pos hne]
      clear hne
      simp only [if_true]
      go_enter Tryd.func19, Tryd.ntmps19
      go_wp2_with fail
      refine H1.out.mono ?_
      rintro e w' ⟨rfl, rfl⟩
      go_wp2_with fail
      refine (H3.out w).mono ?_
      rintro e w2 ⟨A, c, rfl, hr, hb⟩
      have R2 := Lib.hid hr
      have B2 := Lib.hid hb
      clear hb hr
      rw [show (tailD s).length = 6 from HL.out]
      go_wp2_with fail
      refine (rsum_is A 6 c (tailD s) S w2 HSS.out HL.out R2.out HD.out (by omega)).mono ?_
      rintro e w' ⟨rfl, rfl⟩
      go_wp2_with fail
      go_ret
      exact ⟨rfl, B2.out⟩
theorem IsWorn_any (s : ByteArray) (w : World) (hsz : s.size ≤ 1000) :
    Calls Tryd.prog 69 #[.string s] w fun e w' => e = .returned (.bool (formB s true)) ∧ Below w.heap.size w w' := by
  go_enter Tryd.func69, Tryd.ntmps69
  go_wp2_with fail
  refine (hasForm_any s true w (by omega)).mono ?_
  rintro e w' ⟨rfl, hb⟩
  go_wp2_with fail
  go_ret
  exact ⟨rfl, hb⟩
theorem rIsWorn_any (s : ByteArray) (w : World) (hsz : s.size ≤ 1000) :
    Calls Tryd.prog 72 #[.string s] w fun e w' => e = .returned (.bool (formB s true)) ∧ w = w' := by
  go_enter Tryd.func72, Tryd.ntmps72
  go_wp2_with fail
  refine (formed_any s true w (by omega)).mono ?_
  rintro e w' ⟨rfl, rfl⟩
  go_wp2_with fail
  go_ret
  exact ⟨rfl, rfl⟩
theorem fits_any (a b : ByteArray) (w : World) (ha : a.size ≤ 1000) (hasc : ∀ i, i < a.size → bAt a i < 128) :
    Calls Tryd.prog 78 #[.string a, .string b] w fun e w' => e = .returned (.bool (fitsB a b)) ∧ Below w.heap.size w w' := by
  by_cases hs : a.size = b.size
  · have HS := Lib.hid hs
    have h1 : ((a.size : Int) != (b.size : Int)) = false := by simp; omega
    have HA := Lib.hid hasc
    clear hs hasc
    go_enter Tryd.func78, Tryd.ntmps78
    go_wp2
    clear h1
    go_loopw [] (fun wr => ∃ pos, pos ≤ a.size ∧ wr = w.iter a pos ∧ ∀ i, i < pos → bAt a i = 63 ∨ bAt a i = bAt b i) (fun wr => a.size - wr.iterPos w.heap.size)
    case atStart => exact ⟨0, by omega, rfl, fun i hi => by omega⟩
    case round =>
      obtain ⟨pos, hpos, rfl, hall⟩ := hrel
      have HR := Lib.hid hall
      clear hall
      by_cases hp : pos < a.size
      · have hpb : pos < b.size := by have := HS.out; omega
        have E1 := Lib.hid (bAt_get a pos hp)
        have E2 := Lib.hid (bAt_get b pos hpb)
        have hnx : ∀ ty, (Instr.next (.pointer (some ⟨w.heap.size, 0, none⟩)) true ty).run Tryd.prog (w.iter a pos) = _ := fun ty => run_next_ascii w a pos ty hp (by have := HA.out pos hp; rw [E1.out] at this; omega)
        generalize ((a[pos]'hp).toNat : Int) = d at *
        have W := Lib.hid (show wrap32 ((b[pos]'hpb).toNat : Int) = ((b[pos]'hpb).toNat : Int) by have := UInt8.toNat_lt (b[pos]'hpb); unfold wrap32; omega)
        go_wp2
        all_goals first
          | (go_roundw
             case rel => exact ⟨pos + 1, by omega, rfl, fun i hi => by
               rcases Nat.lt_or_ge i pos with h | h
               · exact HR.out i h
               · obtain rfl : i = pos := by omega
                 rw [E1.out, E2.out]; have := W.out; simp_all⟩
             case measure => simp; omega)
          | (go_ret
             exact ⟨by rw [fitsB_bad hp (by rw [E1.out]; simp_all) (by rw [E1.out, E2.out]; have := W.out; simp_all)]; rfl, iter_below _ _ _⟩)
      · have hnx : ∀ ty, (Instr.next (.pointer (some ⟨w.heap.size, 0, none⟩)) true ty).run Tryd.prog (w.iter a pos) = _ := fun ty => run_next_end w a pos ty hp
        have hps : pos = a.size := by omega
        have HP := Lib.hid hps
        clear hps
        go_wp2
        go_ret
        exact ⟨by rw [fitsB_ok HS.out (fun i hi => HR.out i (by rw [HP.out]; exact hi))]; rfl, iter_below _ _ _⟩
  · have h1 : ((a.size : Int) != (b.size : Int)) = true := by simp; omega
    rw [fitsB_size hs]
    clear hs
    go_enter Tryd.func78, Tryd.ntmps78
    go_wp2
    go_ret
    exact ⟨rfl, Below.refl _ _⟩
def fitsE (a b : ByteArray) : Int := if formB a true then validE b else 2
def fitsV (a b : ByteArray) : Bool := if formB a true then (if validE b = 0 then fitsB a b else false) else false
theorem Fits_any (a b : ByteArray) (w : World) (ha : a.size ≤ 1000) (hb : b.size ≤ 1000) (ht : TabsR w) :
    Calls Tryd.prog 29 #[.string a, .string b] w fun e w' => e = .returned (.tuple #[.bool (fitsV a b), .int .i64 (fitsE a b)]) ∧ Below w.heap.size w w' := by
  have HT := Lib.hid ht
  clear ht
  unfold fitsV fitsE
  have H1 := Lib.hid (IsWorn_any a w ha)
  cases hf : formB a true
  · rw [hf] at H1
    clear hf
    go_enter Tryd.func29, Tryd.ntmps29
    go_wp2_with fail
    refine H1.out.mono ?_
    rintro e w' ⟨rfl, hbl⟩
    go_wp2_with fail
    go_ret2
    exact ⟨rfl, hbl⟩
  · rw [hf] at H1
    have HA := Lib.hid (fun i hi => form_ascii hf (i := i) hi)
    clear hf
    have H2 := Lib.hid (fun w => Valid_any b w hb)
    generalize validE b = E at *
    by_cases h0 : E = 0
    · subst h0
      go_enter Tryd.func29, Tryd.ntmps29
      go_wp2_with fail
      refine H1.out.mono ?_
      rintro e w1 ⟨rfl, hbl⟩
      have B1 := Lib.hid hbl
      clear hbl
      go_wp2_with fail
      refine (H2.out w1 (HT.out.below' B1.out)).mono ?_
      rintro e w2 ⟨rfl, hbl⟩
      have B2 := Lib.hid (B1.out.trans (hbl.mono B1.out.size))
      clear hbl
      go_wp2_with fail
      refine (fits_any a b w2 ha HA.out).mono ?_
      rintro e w3 ⟨rfl, hbl⟩
      go_wp2_with fail
      go_ret2
      exact ⟨rfl, B2.out.trans (hbl.mono B2.out.size)⟩
    · have hE : (E == 0) = false := by simpa using h0
      have hE' : (E != 0) = true := by simpa using h0
      simp only [if_true, if_neg h0]
      clear h0
      go_enter Tryd.func29, Tryd.ntmps29
      go_wp2_with fail
      refine H1.out.mono ?_
      rintro e w1 ⟨rfl, hbl⟩
      have B1 := Lib.hid hbl
      clear hbl
      go_wp2_with fail
      refine (H2.out w1 (HT.out.below' B1.out)).mono ?_
      rintro e w2 ⟨rfl, hbl⟩
      have B2 := Lib.hid (B1.out.trans (hbl.mono B1.out.size))
      clear hbl
      go_wp2_with fail
      go_ret2
      exact ⟨rfl, B2.out⟩
end Go.Proofs.YtoenecgjiejljaaDoor

/-
  BookReads: the walk. Conditions: the tables that a row lists.
-/
import Derived.Test.YtklhjiagkkhldaaDoorBhc
namespace Go.Proofs.YtklhjiagkkhldaaDoor
open Go.RowKit
set_option linter.unusedVariables false

theorem eqT_self (a : List ByteArray) : eqT a a = true := decide_eq_true rfl
theorem bl_self (s : ByteArray) : (s.toList == s.toList) = true := by simp
theorem sL_list (s : ByteArray) : ∃ t, s = sL t ∧ t.length = s.size := ⟨s.data.toList, by cases s; rfl, by cases s; simp [ByteArray.size]⟩
theorem rdH_64 {t r : List UInt8} {n x : Nat} (h : rdH t = some ((n, x), r)) : n ≤ 64 := by
  unfold rdH at h
  cases h1 : lnO t with
  | none => rw [h1] at h; cases h
  | some p =>
    obtain ⟨f, r'⟩ := p
    rw [h1] at h
    simp only at h
    cases h2 : hdO f with
    | none => rw [h2] at h; cases h
    | some q =>
      rw [h2] at h
      simp only [Option.some.injEq, Prod.mk.injEq] at h
      obtain ⟨rfl, rfl⟩ := h
      exact (hdO_some.1 h2).1
theorem rd_64 (t : List UInt8) : (rdP t).length ≤ 64 := by
  unfold rdP
  by_cases hE : rdE t = 0
  · rw [if_pos hE]
    cases h : rdH t with
    | none => simp
    | some q =>
      obtain ⟨⟨n, x⟩, r⟩ := q
      have h1 := tk_le n r
      have h2 := rdH_64 h
      simp only
      omega
  · rw [if_neg hE]; simp
theorem rd_small (t : List UInt8) : (rdP t).length ≤ 9223372036854775807 := Nat.le_trans (rd_64 t) (by decide)
set_option maxRecDepth 8000 in
set_option maxHeartbeats 4000000 in
theorem Reads_walk (s : ByteArray) (w : World) (hT : Tb w) : Calls Tryd.prog 4 #[.string s] w fun e w' => e = .returned (.bool true) ∧ Below w.heap.size w w' := by
  obtain ⟨t, rfl, ht⟩ := sL_list s
  have HK := Lib.hid (fun w => known_any w)
  by_cases hlt : (sL t).size > 6000
  · have e1 : decide (6000 < ((sL t).size : Int)) = true := decide_eq_true (by omega)
    have e2 : decide (6000 < (sL t).size) = true := decide_eq_true (by omega)
    generalize sL t = s at *
    clear hlt ht hT
    go_enter Tryd.func4, Tryd.ntmps4
    go_wp2_with fail
    refine (HK.out _).mono ?_
    rintro e w1 ⟨rfl, hb⟩
    have B1 := Lib.hid hb
    clear hb
    go_wp2_with fail
    go_ret
    exact ⟨rfl, B1.out⟩
  · have h9 : t.length ≤ 9000 := by omega
    have e1 : decide (6000 < ((sL t).size : Int)) = false := decide_eq_false (by omega)
    have e2 : decide (6000 < (sL t).size) = false := decide_eq_false (by omega)
    have H1 := Lib.hid (Read_any t w h9 hT)
    have H2 := Lib.hid (fun w' => rRead_any t w' h9)
    have HP := Lib.hid (rd_small t)
    clear hlt ht hT h9
    generalize rdP t = P at *
    generalize rdR t = R at *
    generalize rdE t = E at *
    generalize sL t = s at *
    generalize sL R = r at *
    have b1 := bl_self r
    go_enter Tryd.func4, Tryd.ntmps4
    go_wp2_with fail
    refine (H1.out).mono ?_
    rintro e w1 ⟨A1, c1, rfl, hc1, r1, hb⟩
    have B1 := Lib.hid hb
    have R1 := Lib.hid r1
    clear r1 hb hc1
    go_wp2_with fail
    refine (H2.out w1).mono ?_
    rintro e w2 ⟨A2, c2, rfl, hc2, r2, hb⟩
    have B2 := Lib.hid (B1.out.trans (hb.mono B1.out.size))
    have R12 := Lib.hid ((R1.out.below hb (Nat.le_refl _)).more hb.size)
    have R2 := Lib.hid r2
    have HS := Lib.hid (show Calls Tryd.prog 11 #[.slice A1 P.length c1, .slice A2 P.length c2] w2 fun e w' => e = .returned (.bool true) ∧ ∃ m, w' = w2.drewN m from by
      have h := SameTexts_any A1 A2 c1 c2 (P.map sL) (P.map sL) w2 R12.out R2.out (by rw [List.length_map]; exact HP.out) (by rw [List.length_map]; exact HP.out)
      rw [eqT_self, List.length_map] at h
      exact h)
    clear r2 hb hc2
    go_wp2_with fail
    refine HS.out.mono ?_
    rintro e w3 ⟨rfl, m, rfl⟩
    have B3 := Lib.hid (bdDN B2.out m)
    generalize w2.drewN m = w3 at *
    go_wp2_with fail
    refine (HK.out w3).mono ?_
    rintro e w4 ⟨rfl, hb⟩
    have B4 := Lib.hid (B3.out.trans (hb.mono B3.out.size))
    clear hb
    go_wp2_with fail
    go_ret
    exact ⟨rfl, B4.out⟩
end Go.Proofs.YtklhjiagkkhldaaDoor

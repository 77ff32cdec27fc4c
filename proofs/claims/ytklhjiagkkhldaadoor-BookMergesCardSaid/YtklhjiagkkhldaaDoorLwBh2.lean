/-
  BookMerges: the walk. Conditions: the tables that a row lists.
-/
import Derived.Test.YtklhjiagkkhldaaDoorBhf
namespace Go.Proofs.YtklhjiagkkhldaaDoor
open Go.RowKit
set_option linter.unusedVariables false

set_option maxRecDepth 8000 in
set_option maxHeartbeats 8000000 in
theorem Merges_walk (a b : ByteArray) (w : World) (hT : Tb w) : Calls Tryd.prog 5 #[.string a, .string b] w fun e w' => e = .returned (.bool true) ∧ Below w.heap.size w w' := by
  obtain ⟨s, rfl, hs⟩ := sL_list a
  obtain ⟨t, rfl, ht⟩ := sL_list b
  have HK := Lib.hid (fun w => known_any w)
  by_cases hA : (sL s).size > 6000
  · have e1 : decide (6000 < ((sL s).size : Int)) = true := decide_eq_true (by omega)
    have e2 : decide (6000 < (sL s).size) = true := decide_eq_true (by omega)
    generalize sL s = s1 at *
    generalize sL t = t1 at *
    clear hA hs ht hT
    go_enter Tryd.func5, Tryd.ntmps5
    go_wp2_with fail
    refine (HK.out _).mono ?_
    rintro e w1 ⟨rfl, hb⟩
    have B1 := Lib.hid hb
    clear hb
    go_wp2_with fail
    go_ret
    exact ⟨rfl, B1.out⟩
  have e1 : decide (6000 < ((sL s).size : Int)) = false := decide_eq_false (by omega)
  have e2 : decide (6000 < (sL s).size) = false := decide_eq_false (by omega)
  by_cases hB : (sL t).size > 6000
  · have e3 : decide (6000 < ((sL t).size : Int)) = true := decide_eq_true (by omega)
    have e4 : decide (6000 < (sL t).size) = true := decide_eq_true (by omega)
    generalize sL s = s1 at *
    generalize sL t = t1 at *
    clear hA hB hs ht hT
    go_enter Tryd.func5, Tryd.ntmps5
    go_wp2_with fail
    refine (HK.out _).mono ?_
    rintro e w1 ⟨rfl, hb⟩
    have B1 := Lib.hid hb
    clear hb
    go_wp2_with fail
    go_ret
    exact ⟨rfl, B1.out⟩
  have e3 : decide (6000 < ((sL t).size : Int)) = false := decide_eq_false (by omega)
  have e4 : decide (6000 < (sL t).size) = false := decide_eq_false (by omega)
  have h9 : s.length ≤ 9000 := by omega
  have h9' : t.length ≤ 9000 := by omega
  have H1 := Lib.hid (Merge_any s t w h9 h9' hT)
  have H2 := Lib.hid (fun w' => rMerge_any s t w' h9 h9')
  have H3 := Lib.hid (fun w' => rRead_any s w' h9)
  have H4 := Lib.hid (fun w' => rRead_any t w' h9')
  have H5 := Lib.hid (fun w' hT' => Merge_any t s w' h9' h9 hT')
  have HSw := Lib.hid (fun h1 h2 => mg_swap (s := s) (t := t) h1 h2)
  have HT := Lib.hid hT
  unfold MgPost at H1 H2 H5
  clear hA hB hs ht hT h9 h9'
  generalize mgO s t = o at *
  generalize mgO t s = o' at *
  obtain ⟨r, N, E⟩ := o
  obtain ⟨r', N', E'⟩ := o'
  dsimp only at H1 H2 H5 HSw
  generalize rdE s = E1 at *
  generalize rdE t = E2 at *
  generalize rdP s = P1 at *
  generalize rdP t = P2 at *
  generalize sL (rdR s) = R1 at *
  generalize sL (rdR t) = R2 at *
  generalize sL s = s1 at *
  generalize sL t = t1 at *
  generalize sL r = q1 at *
  generalize sL r' = q2 at *
  have b1 := bl_self q1
  have b2 : (q1.toList != q1.toList) = false := by rw [bne, b1]; rfl
  have b3 : (N != N) = false := by simp
  have b4 : (E != E) = false := by simp
  go_enter Tryd.func5, Tryd.ntmps5
  go_wp2_with fail
  refine (H1.out).mono ?_
  rintro e w1 ⟨rfl, hb⟩
  have B1 := Lib.hid hb
  clear hb
  go_wp2_with fail
  refine (H2.out w1).mono ?_
  rintro e w2 ⟨rfl, hb⟩
  have B2 := Lib.hid (B1.out.trans (hb.mono B1.out.size))
  clear hb
  go_wp2_with fail
  refine (H3.out w2).mono ?_
  rintro e w3 ⟨A3, c3, rfl, hc3, r3, hb⟩
  have B3 := Lib.hid (B2.out.trans (hb.mono B2.out.size))
  clear hb hc3 r3
  go_wp2_with fail
  refine (H4.out w3).mono ?_
  rintro e w4 ⟨A4, c4, rfl, hc4, r4, hb⟩
  have B4 := Lib.hid (B3.out.trans (hb.mono B3.out.size))
  clear hb hc4 r4
  by_cases x1 : E1 = 0
  case neg =>
    have z1 : (E1 != 0) = true := by simpa using x1
    clear x1
    go_wp2_with fail
    refine (HK.out w4).mono ?_
    rintro e w5 ⟨rfl, hb⟩
    have B5 := Lib.hid (B4.out.trans (hb.mono B4.out.size))
    clear hb
    go_wp2_with fail
    go_ret
    exact ⟨rfl, B5.out⟩
  have z1 : (E1 != 0) = false := by simpa using x1
  by_cases x2 : E2 = 0
  case neg =>
    have z2 : (E2 != 0) = true := by simpa using x2
    clear x1 x2
    go_wp2_with fail
    refine (HK.out w4).mono ?_
    rintro e w5 ⟨rfl, hb⟩
    have B5 := Lib.hid (B4.out.trans (hb.mono B4.out.size))
    clear hb
    go_wp2_with fail
    go_ret
    exact ⟨rfl, B5.out⟩
  have z2 : (E2 != 0) = false := by simpa using x2
  have HS2 := Lib.hid (HSw.out x1 x2)
  clear x1 x2
  go_wp2_with fail
  refine (H5.out w4 (HT.out.up B4.out)).mono ?_
  rintro e w5 ⟨rfl, hb⟩
  have B5 := Lib.hid (B4.out.trans (hb.mono B4.out.size))
  clear hb
  by_cases x3 : E = 0 ∨ E = 7
  case neg =>
    have z3 : (E != 0) = true := by
      rw [bne_iff_ne]; exact fun h => x3 (.inl h)
    have z4 : (E != 7) = true := by
      rw [bne_iff_ne]; exact fun h => x3 (.inr h)
    clear x3
    go_wp2_with fail
    refine (HK.out w5).mono ?_
    rintro e w6 ⟨rfl, hb⟩
    have B6 := Lib.hid (B5.out.trans (hb.mono B5.out.size))
    clear hb
    go_wp2_with fail
    go_ret
    exact ⟨rfl, B6.out⟩
  obtain ⟨rfl, rfl⟩ := HS2.out x3
  rcases x3 with rfl | rfl
  all_goals (
    go_wp2_with fail
    refine (HK.out w5).mono ?_
    rintro e w6 ⟨rfl, hb⟩
    have B6 := Lib.hid (B5.out.trans (hb.mono B5.out.size))
    clear hb
    go_wp2_with fail
    go_ret
    exact ⟨rfl, B6.out⟩)
end Go.Proofs.YtklhjiagkkhldaaDoor

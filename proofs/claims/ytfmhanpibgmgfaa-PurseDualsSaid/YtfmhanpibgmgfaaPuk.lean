/-
  The chapter's examples that the laws ask: the walk of known. Every world.
-/
import Derived.Test.YtfmhanpibgmgfaaPuj
namespace Go.Proofs.Ytfmhanpibgmgfaa
open Go.RowKit
set_option linter.unusedVariables false

/-- A literal list in a block of its own. -/
theorem lit_row (w : World) (s : Nat) (l : List Int) (t : TypeId) (hs : w.heap.size = s) : ∃ W, w.alloc (.cells (ints l).toArray t) = W ∧ Rd W W.heap.size (some ⟨s, 0, none⟩) (ints l) ∧ Below s w W ∧ W.heap.size = s + 1 := by
  subst hs
  exact ⟨_, rfl, Rd.of_block (heap_alloc_new w _), (Below.refl _ _).alloc (Nat.le_refl _) _, by simp⟩
theorem sh_lit (s : Nat) (W : World) (h : Rd W W.heap.size (some ⟨s, 0, none⟩) (ints [0, 0, 0, 10])) :
    Calls Try.prog 24 #[.slice (some ⟨s, 0, none⟩) 4 4] W fun e w' => ∃ A' c', e = .returned (.tuple #[.slice A' 2 c', .int .i64 0]) ∧ Rd w' w'.heap.size A' (ints [5, 1, 5, 1]) ∧ Below W.heap.size W w' := by
  have H := Shapley_any (some ⟨s, 0, none⟩) [0, 0, 0, 10] 4 (by decide) W h
  rw [mn4.1, mn4.2.1, mn4.2.2] at H
  exact H
theorem co_lit (s : Nat) (W : World) (h : Rd W W.heap.size (some ⟨s, 0, none⟩) (ints v8)) :
    Calls Try.prog 47 #[.slice (some ⟨s, 0, none⟩) 8 8] W fun e w' => e = .returned (.tuple #[.agg #[.int .i64 0, .slice none 0 0], .bool false, .int .i64 0]) ∧ Below W.heap.size W w' :=
  Core_none (some ⟨s, 0, none⟩) v8 8 3 3 pv8 vd8 up8 run8 W h
theorem cb_lit (s s2 : Nat) (W : World) (h : Rd W W.heap.size (some ⟨s, 0, none⟩) (ints v8)) (h2 : Rd W W.heap.size (some ⟨s2, 0, none⟩) (ints [3, 1, 5, 1, 6, 1])) :
    Calls Try.prog 50 #[.slice (some ⟨s, 0, none⟩) 8 8, .agg #[.int .i64 2, .slice (some ⟨s2, 0, none⟩) 3 3]] W fun e w' => e = .returned (.int .i64 0) ∧ Below W.heap.size W w' := by
  have H := CheckBalance_any (some ⟨s, 0, none⟩) v8 8 2 (some ⟨s2, 0, none⟩) [⟨3, 1⟩, ⟨5, 1⟩, ⟨6, 1⟩] 3 (by decide) (by decide) W h h2
  rw [cb8] at H
  exact H
theorem cc_lit (s s2 : Nat) (v : List Int) (r : Int) (hv : v.length = 8) (hr : ccE v 1 [4, 4, 4] = r) (W : World) (h : Rd W W.heap.size (some ⟨s, 0, none⟩) (ints v)) (h2 : Rd W W.heap.size (some ⟨s2, 0, none⟩) (ints [4, 4, 4])) :
    Calls Try.prog 43 #[.slice (some ⟨s, 0, none⟩) 8 8, .agg #[.int .i64 1, .slice (some ⟨s2, 0, none⟩) 3 3]] W fun e w' => e = .returned (.int .i64 r) ∧ Below W.heap.size W w' := by
  have H := CheckCore_any (some ⟨s, 0, none⟩) v 8 1 (some ⟨s2, 0, none⟩) [4, 4, 4] 3 (by omega) (by decide) W h h2
  rw [hv, hr] at H
  exact H
set_option maxRecDepth 8000 in
set_option maxHeartbeats 4000000 in
theorem known_any (w : World) : Calls Try.prog 16 #[] w fun e w' => e = .returned (.bool true) ∧ Below w.heap.size w w' := by
  obtain ⟨s, hs⟩ : ∃ s, w.heap.size = s := ⟨_, rfl⟩
  have HS := Lib.hid hs
  obtain ⟨W1, hW1, r1, b1, z1⟩ := lit_row w s [0, 0, 0, 10] 3 hs
  have HW1 := Lib.hid hW1
  have HT1 := Lib.hid (sh_lit s W1 r1)
  have B1 := Lib.hid b1
  have Z1 := Lib.hid z1
  simp only [ints, List.map_cons, List.map_nil] at HW1
  clear hW1 r1 b1 z1 hs
  go_enter Try.func16, Try.ntmps16
  go_wp2_with fail
  rw [HW1.out, HS.out]
  refine HT1.out.mono ?_
  rintro e w1 ⟨Ar, cr, rfl, hrr, hb1⟩
  have HRr := Lib.hid hrr
  have BB1 := Lib.hid (B1.out.trans (hb1.mono (by rw [Z1.out]; omega)))
  obtain ⟨s1, hs1⟩ : ∃ s1, w1.heap.size = s1 := ⟨_, rfl⟩
  have HS1 := Lib.hid hs1
  have hss1 : s ≤ s1 := by rw [← hs1, ← HS.out]; have := BB1.out.size; omega
  obtain ⟨W2, hW2, r2, b2, z2⟩ := lit_row w1 s1 v8 3 hs1
  have HW2 := Lib.hid hW2
  have HT2 := Lib.hid (co_lit s1 W2 r2)
  have R2 := Lib.hid r2
  have BB2 := Lib.hid (BB1.out.trans (b2.mono hss1))
  have HRr2 := Lib.hid ((hrr.below b2 (by omega)).more (by omega : w1.heap.size ≤ W2.heap.size))
  have Z2 := Lib.hid z2
  simp only [ints, v8, List.map_cons, List.map_nil] at HW2
  clear hW2 r2 b2 z2 hb1 hrr hs1
  go_wp2_with fail
  rw [HW2.out, HS1.out]
  refine HT2.out.mono ?_
  rintro e w3 ⟨rfl, hb3⟩
  have BB3 := Lib.hid (BB2.out.trans (hb3.mono (by rw [Z2.out]; omega)))
  have R3 := Lib.hid ((R2.out.below hb3 (Nat.le_refl _)).more hb3.size)
  have HRr3 := Lib.hid ((HRr2.out.below hb3 (Nat.le_refl _)).more hb3.size)
  obtain ⟨s3, hs3⟩ : ∃ s3, w3.heap.size = s3 := ⟨_, rfl⟩
  have HS3 := Lib.hid hs3
  have hss3 : s ≤ s3 := by rw [← hs3, ← HS.out]; have := BB3.out.size; omega
  obtain ⟨W4, hW4, _, ls4, b4⟩ := one_blk w3 #[.int .i64 0, .slice none 0 0] 44
  have hz4 : W4.heap.size = s3 + 1 := by rw [← hW4]; simp [hs3]
  obtain ⟨W5, hW5, r5, b5, z5⟩ := lit_row W4 (s3 + 1) [3, 1, 5, 1, 6, 1] 59 hz4
  have HW4 := Lib.hid hW4
  have HW5 := Lib.hid hW5
  have b45 : Below w3.heap.size w3 W5 := b4.trans (b5.mono (by omega))
  have R5 := Lib.hid ((R3.out.below b45 (Nat.le_refl _)).more b45.size)
  have HRr5 := Lib.hid ((HRr3.out.below b45 (Nat.le_refl _)).more b45.size)
  have BB5 := Lib.hid (BB3.out.trans (b45.mono (by omega)))
  have HT5 := Lib.hid (cb_lit s1 (s3 + 1) W5 R5.out r5)
  have Z5 := Lib.hid z5
  simp only [ints, List.map_cons, List.map_nil] at HW5
  clear hW4 hW5 r5 b5 z5 b45 ls4 b4 hz4 hb3 hs3
  go_wp2_with fail
  rw [HW4.out, HW5.out, HS3.out]
  refine HT5.out.mono ?_
  rintro e w6 ⟨rfl, hb6⟩
  have BB6 := Lib.hid (BB5.out.trans (hb6.mono (by rw [Z5.out]; omega)))
  have R6 := Lib.hid ((R5.out.below hb6 (Nat.le_refl _)).more hb6.size)
  have HRr6 := Lib.hid ((HRr5.out.below hb6 (Nat.le_refl _)).more hb6.size)
  obtain ⟨s6, hs6⟩ : ∃ s6, w6.heap.size = s6 := ⟨_, rfl⟩
  have HS6 := Lib.hid hs6
  have hss6 : s ≤ s6 := by rw [← hs6, ← HS.out]; have := BB6.out.size; omega
  obtain ⟨W7, hW7, r7, b7, z7⟩ := lit_row w6 s6 [0, 0, 0, 8, 0, 8, 8, 12] 3 hs6
  obtain ⟨W8, hW8, r8, b8, z8⟩ := lit_row W7 (s6 + 1) [4, 4, 4] 3 z7
  have HW7 := Lib.hid hW7
  have HW8 := Lib.hid hW8
  have b78 : Below w6.heap.size w6 W8 := by rw [hs6]; exact b7.trans (b8.mono (by omega))
  have R8 := Lib.hid ((R6.out.below b78 (Nat.le_refl _)).more b78.size)
  have HRr8 := Lib.hid ((HRr6.out.below b78 (Nat.le_refl _)).more b78.size)
  have BB8 := Lib.hid (BB6.out.trans (b78.mono (by omega)))
  have HT8 := Lib.hid (cc_lit s6 (s6 + 1) [0, 0, 0, 8, 0, 8, 8, 12] 0 rfl cc8a W8 ((r7.below b8 (by omega)).more (by omega : W7.heap.size ≤ W8.heap.size)) r8)
  have Z8 := Lib.hid z8
  simp only [ints, List.map_cons, List.map_nil] at HW7 HW8
  clear hW7 hW8 r7 r8 b7 b8 z7 z8 b78 hb6 hs6
  go_wp2_with fail
  rw [HW7.out, HW8.out, HS6.out]
  refine HT8.out.mono ?_
  rintro e w9 ⟨rfl, hb9⟩
  have BB9 := Lib.hid (BB8.out.trans (hb9.mono (by rw [Z8.out]; omega)))
  have R9 := Lib.hid ((R8.out.below hb9 (Nat.le_refl _)).more hb9.size)
  have HRr9 := Lib.hid ((HRr8.out.below hb9 (Nat.le_refl _)).more hb9.size)
  obtain ⟨s9, hs9⟩ : ∃ s9, w9.heap.size = s9 := ⟨_, rfl⟩
  have HS9 := Lib.hid hs9
  have hss9 : s ≤ s9 := by rw [← hs9, ← HS.out]; have := BB9.out.size; omega
  obtain ⟨Wa, hWa, ra, ba, za⟩ := lit_row w9 s9 [4, 4, 4] 3 hs9
  have HWa := Lib.hid hWa
  have ba' : Below w9.heap.size w9 Wa := by rw [hs9]; exact ba
  have HTa := Lib.hid (cc_lit s1 s9 v8 7 rfl cc8b Wa ((R9.out.below ba' (Nat.le_refl _)).more ba'.size) ra)
  have HRra := Lib.hid ((HRr9.out.below ba' (Nat.le_refl _)).more ba'.size)
  have BBa := Lib.hid (BB9.out.trans (ba.mono hss9))
  have Za := Lib.hid za
  simp only [ints, List.map_cons, List.map_nil] at HWa
  clear hWa ra ba ba' za hb9 hs9
  go_wp2_with fail
  rw [HWa.out, HS9.out]
  refine HTa.out.mono ?_
  rintro e wb ⟨rfl, hbb⟩
  have BBb := Lib.hid (BBa.out.trans (hbb.mono (by rw [Za.out]; omega)))
  have HRrb := Lib.hid ((HRra.out.below hbb (Nat.le_refl _)).more hbb.size)
  obtain ⟨sb, hsb⟩ : ∃ sb, wb.heap.size = sb := ⟨_, rfl⟩
  have HSb := Lib.hid hsb
  have hssb : s ≤ sb := by rw [← hsb, ← HS.out]; have := BBb.out.size; omega
  obtain ⟨Wc, hWc, rc, bc, zc⟩ := lit_row wb sb [5, 1, 5, 1] 36 hsb
  have HWc := Lib.hid hWc
  have bc' : Below wb.heap.size wb Wc := by rw [hsb]; exact bc
  have HTc := Lib.hid (SameRats_same Ar (some ⟨sb, 0, none⟩) 2 cr 2 [5, 1, 5, 1] rfl (by omega) Wc ((HRrb.out.below bc' (Nat.le_refl _)).more bc'.size) rc)
  have BBc := Lib.hid (BBb.out.trans (bc.mono hssb))
  simp only [ints, List.map_cons, List.map_nil] at HWc
  clear hWc rc bc bc' zc hbb hsb
  go_wp2_with fail
  rw [HWc.out, HSb.out]
  refine HTc.out.mono ?_
  rintro e wd ⟨rfl, m, hwd⟩
  have BBd := Lib.hid (show Below s w wd by rw [hwd]; exact bdN' BBc.out m)
  clear hwd
  go_wp2_with fail
  go_ret
  exact ⟨rfl, by rw [HS.out]; exact BBd.out⟩
end Go.Proofs.Ytfmhanpibgmgfaa

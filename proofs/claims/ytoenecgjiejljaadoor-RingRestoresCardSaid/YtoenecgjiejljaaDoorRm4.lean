/-
  Next of package ring and of the reference: the walks. Conditions: 'TabsR' and the table of powers of ten where package ring reads them.
-/
import Derived.Test.YtoenecgjiejljaaDoorRm3
import Derived.Test.YtoenecgjiejljaaDoorSpl
namespace Go.Proofs.YtoenecgjiejljaaDoor
open Go.RowKit
set_option linter.unusedVariables false

theorem nx_make {s : ByteArray} (h : validE s = 0) (h9 : ¬ numB s = 99999) : nxE s = 0 ∧ mkE (headB s) (numB s + 1) = 0 ∧ mkS (headB s) (numB s + 1) = nxS s := by
  have hf := valid_form h
  have hn := numB_le hf
  have e1 : nxE s = 0 := by unfold nxE; rw [if_pos h, if_neg h9]
  have e2 : mkE (headB s) (numB s + 1) = 0 := mkE_ok (head_series hf) (by omega) (by omega)
  refine ⟨e1, e2, ?_⟩
  unfold mkS nxS
  rw [if_pos e1, if_pos e2]
set_option maxRecDepth 8000 in
set_option maxHeartbeats 2000000 in
theorem Next_any (s : ByteArray) (w : World) (hsz : s.size ≤ 900) (hT : TabsR w) (hI : TbI w) :
    Calls Tryd.prog 16 #[.string s] w fun e w' => e = .returned (.tuple #[.string (nxS s), .int .i64 (nxE s)]) ∧ Below w.heap.size w w' := by
  have H1 := Lib.hid (rgSplit_any s w (by omega) hT)
  have HT := Lib.hid hT
  have HI := Lib.hid hI
  clear hT hI
  unfold splitS splitN at H1
  by_cases h0 : validE s = 0
  case neg =>
    have e1 : nxE s = validE s := if_neg h0
    have e2 : nxS s = ⟨#[]⟩ := by unfold nxS; rw [e1, if_neg h0]
    rw [e1, e2]
    rw [if_neg h0, if_neg h0] at H1
    generalize validE s = E at *
    have hE' : (E != 0) = true := by simpa using h0
    clear h0 e1 e2 HT HI
    go_enter Tryd.func16, Tryd.ntmps16
    go_wp2_with fail
    refine H1.out.mono ?_
    rintro e w1 ⟨rfl, hb⟩
    go_wp2_with fail
    go_ret2
    exact ⟨rfl, hb⟩
  rw [if_pos h0, if_pos h0, h0] at H1
  by_cases h9 : numB s = 99999
  · have e1 : nxE s = 3 := by unfold nxE; rw [if_pos h0, if_pos h9]
    have e2 : nxS s = ⟨#[]⟩ := by unfold nxS; rw [e1]; rfl
    rw [e1, e2]
    rw [h9] at H1
    clear h0 e1 e2 h9 HT HI
    go_enter Tryd.func16, Tryd.ntmps16
    go_wp2_with fail
    refine H1.out.mono ?_
    rintro e w1 ⟨rfl, hb⟩
    go_wp2_with fail
    go_ret2
    exact ⟨rfl, hb⟩
  obtain ⟨e1, e2, e3⟩ := nx_make h0 h9
  have hn := numB_le (valid_form h0)
  have hsz2 : (headB s).size ≤ 1000 := by have : (headB s).size = s.size - 6 := by simp [headB]
                                          omega
  have H2 := Lib.hid (fun w hT hI => Make_any (headB s) (numB s + 1) w hsz2 hT hI)
  rw [e2, e3] at H2
  rw [e1]
  have q9 : (numB s == 99999) = false := by simpa using h9
  have n0 := hn.1
  have n9 := hn.2
  clear h0 h9 e1 e2 e3 hn hsz2
  generalize nxS s = R at *
  generalize headB s = H at *
  generalize numB s = N at *
  go_enter Tryd.func16, Tryd.ntmps16
  go_wp2_with fail
  refine H1.out.mono ?_
  rintro e w1 ⟨rfl, hb⟩
  have B1 := Lib.hid hb
  clear hb
  go_wp2_with fail
  refine (H2.out w1 (HT.out.below' B1.out) (HI.out.up B1.out)).mono ?_
  rintro e w2 ⟨rfl, hb⟩
  go_wp2_with fail
  go_ret2
  exact ⟨rfl, B1.out.trans (hb.mono B1.out.size)⟩
set_option maxRecDepth 8000 in
set_option maxHeartbeats 2000000 in
theorem rNext_any (s : ByteArray) (w : World) (hsz : s.size ≤ 900) :
    Calls Tryd.prog 17 #[.string s] w fun e w' => e = .returned (.tuple #[.string (nxS s), .int .i64 (nxE s)]) ∧ Below w.heap.size w w' := by
  have H1 := Lib.hid (rValid_any s w (by omega))
  by_cases h0 : validE s = 0
  case neg =>
    have e1 : nxE s = validE s := if_neg h0
    have e2 : nxS s = ⟨#[]⟩ := by unfold nxS; rw [e1, if_neg h0]
    rw [e1, e2]
    generalize validE s = E at *
    have hE' : (E != 0) = true := by simpa using h0
    clear h0 e1 e2
    go_enter Tryd.func17, Tryd.ntmps17
    go_wp2_with fail
    refine H1.out.mono ?_
    rintro e w1 ⟨rfl, hb⟩
    go_wp2_with fail
    go_ret2
    exact ⟨rfl, hb⟩
  have hf := valid_form h0
  have H2 := Lib.hid (fun w => number_ok s w hf)
  rw [h0] at H1
  by_cases h9 : numB s = 99999
  · have e1 : nxE s = 3 := by unfold nxE; rw [if_pos h0, if_pos h9]
    have e2 : nxS s = ⟨#[]⟩ := by unfold nxS; rw [e1]; rfl
    rw [e1, e2]
    rw [h9] at H2
    clear h0 e1 e2 h9 hf
    go_enter Tryd.func17, Tryd.ntmps17
    go_wp2_with fail
    refine H1.out.mono ?_
    rintro e w1 ⟨rfl, hb⟩
    have B1 := Lib.hid hb
    clear hb
    go_wp2_with fail
    refine (H2.out w1).mono ?_
    rintro e w2 ⟨rfl, hb⟩
    go_wp2_with fail
    go_ret2
    exact ⟨rfl, B1.out.trans (hb.mono B1.out.size)⟩
  obtain ⟨e1, e2, e3⟩ := nx_make h0 h9
  have hn := numB_le hf
  obtain ⟨m, hm⟩ : ∃ m : Nat, numB s = (m : Int) := ⟨(numB s).toNat, by omega⟩
  have hs := form_size hf
  obtain ⟨k, hk⟩ : ∃ k, s.size = k + 6 := ⟨s.size - 6, by omega⟩
  have eq2 : s.size - 6 = k := by omega
  have q1 : ((s.size : Int) - 6) = (k : Int) := by omega
  have hks : k ≤ s.size := by omega
  have ew : IntKind.i64.wrap (k : Int) = (k : Int) := IntWalk.i64_in _ (by omega)
  have hsz2 : (headB s).size ≤ 1000 := by have : (headB s).size = s.size - 6 := by simp [headB]
                                          omega
  have H3 := Lib.hid (fun w => build_ok (headB s) (m + 1) w (by omega) hsz2)
  have e4 : mkR (headB s) (m + 1) = nxS s := by
    unfold nxS
    rw [if_pos e1, hm]
    congr 1
  rw [e4] at H3
  unfold headB at H3
  rw [eq2] at H3
  have q9 : (numB s == 99999) = false := by simpa using h9
  rw [hm] at q9 H2
  rw [e1]
  have m9 : m ≤ 99998 := by omega
  have q5 : ((m + 1 : Nat) : Int) = (m : Int) + 1 := by omega
  rw [q5] at H3
  have ew2 : IntKind.i64.wrap ((m : Int) + 1) = (m : Int) + 1 := IntWalk.i64_in _ (by omega)
  clear h0 h9 e1 e2 e3 e4 hn hsz2 hf hs hk eq2 q5 hm
  generalize nxS s = R at *
  go_enter Tryd.func17, Tryd.ntmps17
  go_wp2_with fail
  refine H1.out.mono ?_
  rintro e w1 ⟨rfl, hb⟩
  have B1 := Lib.hid hb
  clear hb
  go_wp2_with fail
  refine (H2.out w1).mono ?_
  rintro e w2 ⟨rfl, hb⟩
  have B2 := Lib.hid (B1.out.trans (hb.mono B1.out.size))
  clear hb
  go_wp2_with fail
  go_region_with (first
    | (go_at_call 52; refine (H2.out _).mono ?_; rintro e w3 ⟨rfl, hb3⟩)
    | (go_at_call 53; refine (H3.out _).mono ?_; rintro e w4 ⟨rfl, hb4⟩))
  all_goals (
    go_wp2_with fail
    go_ret2
    exact ⟨rfl, B2.out.trans (((Below.refl w2.heap.size w2).drew.trans ((hb3.trans (hb4.mono hb3.size)).mono (by simp))).mono B2.out.size)⟩)
end Go.Proofs.YtoenecgjiejljaaDoor

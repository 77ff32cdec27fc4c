/-
  Texts merged into one (LawFits, LwNr): contracts of the functions of package lure, what is reckoned of games. Conditions: as each says.
-/
import Derived.Test.YtoenecgjiejljaaDoorMt11
import Derived.Test.YtoenecgjiejljaaDoorMt24
import Derived.Test.YtoenecgjiejljaaDoorMt23
namespace Go.Proofs.YtoenecgjiejljaaDoor
open Go.RowKit
set_option linter.unusedVariables false

theorem long_any (s : ByteArray) (w : World) (hsz : s.size ≤ 9223372036854775807) :
    Calls Tryd.prog 12 #[.string s] w fun e w' => e = .returned (.bool (decide (200 < (s.size : Int)))) ∧ w = w' := by
  go_enter Tryd.func12, Tryd.ntmps12
  go_wp2
  go_ret
  exact ⟨rfl, rfl⟩
theorem long_is (s : ByteArray) (b : Bool) (w : World) (hsz : s.size ≤ 9223372036854775807) (h : decide (200 < s.size) = b) :
    Calls Tryd.prog 12 #[.string s] w fun e w' => e = .returned (.bool b) ∧ w = w' := by
  subst h
  have e : decide (200 < s.size) = decide (200 < (s.size : Int)) := by
    by_cases h : 200 < s.size
    · rw [decide_eq_true h, decide_eq_true (by omega)]
    · rw [decide_eq_false h, decide_eq_false (by omega)]
  rw [e]
  exact long_any s w hsz
end Go.Proofs.YtoenecgjiejljaaDoor
namespace Go.Proofs.YtoenecgjiejljaaDoor
open Go.RowKit
set_option linter.unusedVariables false

theorem set_sum {D : List Int} {i : Nat} {d : Int} (hD : ∀ x ∈ D, Dig x) (hd : Dig d) (hi : i < D.length) (h : sumL (D.set i d) = sumL D) : D.set i d = D := by
  have e : D = D.take i ++ D[i] :: D.drop (i + 1) := by rw [← List.drop_eq_getElem_cons hi, List.take_append_drop]
  have e2 : D.set i d = D.take i ++ d :: D.drop (i + 1) := by rw [List.set_eq_take_append_cons_drop, if_pos hi]
  rw [e2] at h ⊢
  conv at h => { rhs; rw [e] }
  have := sum_wrong (fun x hx => hD x (List.mem_of_mem_take hx)) (fun x hx => hD x (List.mem_of_mem_drop hx)) hd (hD _ (List.getElem_mem hi)) h
  rw [this, ← e]
theorem xD_sum {D : List Int} {i : Nat} (hD : ∀ x ∈ D, Dig x) (hi : i + 1 < D.length) (h : sumL (xD D i) = sumL D) : xD D i = D := by
  have hi' : i < D.length := by omega
  have e : D = D.take i ++ D[i] :: D[i + 1] :: D.drop (i + 2) := by rw [← List.drop_eq_getElem_cons hi, ← List.drop_eq_getElem_cons hi', List.take_append_drop]
  have e2 : xD D i = D.take i ++ D[i + 1] :: D[i] :: D.drop (i + 2) := by
    unfold xD
    rw [List.getD_eq_getElem?_getD, List.getD_eq_getElem?_getD, List.getElem?_eq_getElem hi, List.getElem?_eq_getElem hi']
    simp only [Option.getD_some]
    have hl : (D.take i).length = i := by rw [List.length_take]; omega
    generalize D[i + 1] = a at *
    generalize D[i] = b at *
    rw [e]
    rw [List.set_append_right _ _ (by omega), List.set_append_right _ _ (by omega), hl, Nat.sub_self, show i + 1 - i = 1 by omega]
    simp only [List.set_cons_zero, List.set_cons_succ, List.set_cons_zero]
    rw [← e]
  rw [e2] at h ⊢
  conv at h => { rhs; rw [e] }
  have := sum_swap (fun x hx => hD x (List.mem_of_mem_take hx)) (fun x hx => hD x (List.mem_of_mem_drop hx)) (hD _ (List.getElem_mem hi)) (hD _ (List.getElem_mem hi')) h
  conv => { rhs; rw [e] }
  rw [this]
/-- None is near to a ring. -/
theorem nr_none {s : ByteArray} (h : validE s = 0) : nrL s = [] := by
  have hf := valid_form h
  have hs := form_size hf
  have hl : (tailD s).length = 6 := tailK_length s 6
  have h0 : sumL (tailD s) = 0 := by
    unfold validE at h
    rw [if_pos hf] at h
    by_cases hh : sumL (tailD s) = 0
    · exact hh
    · rw [if_neg hh] at h; omega
  have hh : (bl (headB s)).length = s.size - 6 := head_len
  have hr : rT (bl (headB s)) (tailD s) = s := by
    unfold rT
    rw [← ring_bl hf, sL_bl]
  have key : (nrT s).filter rgV = [] := by
    rw [List.filter_eq_nil_iff]
    intro y hy
    rcases List.mem_append.1 hy with hy | hy
    · obtain ⟨i, hi, hx⟩ := List.mem_flatMap.1 hy
      have hi := List.mem_range.1 hi
      obtain ⟨d, hd, ho, rfl⟩ := cgP_mem.1 hx
      have e := (nrP_cg hf (k := i) (d := d) hh hd []).1
      have dd : Dig (d : Int) := ⟨by omega, by omega⟩
      rw [rgV_rT (ring_hd hf) (by rw [List.length_set]; exact hl) (set_dig (dig_tail hf) dd) e]
      intro hc
      have hs' := set_sum (D := tailD s) (i := i) (dig_tail hf) dd (by omega) (by rw [of_decide_eq_true hc, h0])
      rw [hs', hr] at e
      have : cg (bl s) (s.size - 6 + i) d = bl s := by have := congrArg bl e; rw [bl_sL] at this; exact this
      rw [(cg_self (u := bl s) (p := s.size - 6 + i) (d := d) (by rw [bl_len]; omega)).1 this] at ho
      cases ho
    · obtain ⟨i, hi, ho, rfl⟩ := xgL_mem.1 hy
      have e := (nrP_xg hf (k := i) hh (by omega) []).1
      rw [rgV_rT (ring_hd hf) (by rw [xD_len]; exact hl) (xD_dig (dig_tail hf) i) e]
      intro hc
      have hs' := xD_sum (D := tailD s) (i := i) (dig_tail hf) (by omega) (by rw [of_decide_eq_true hc, h0])
      rw [hs', hr] at e
      have : xg (bl s) (s.size - 6 + i) = bl s := by have := congrArg bl e; rw [bl_sL] at this; exact this
      rw [(xg_self (u := bl s) (p := s.size - 6 + i) (by rw [bl_len]; omega)).1 this] at ho
      cases ho
  unfold nrL
  rw [key]
  exact List.eq_nil_of_length_eq_zero (srt_len [])
theorem same_tsl (l : List (List UInt8)) (A A' : Option Addr) (c c' : Nat) (w : World) (hr : Rd w w.heap.size A (tsl l)) (hr' : Rd w w.heap.size A' (tsl l)) (hl : l.length ≤ 1000) :
    Calls Tryd.prog 24 #[.slice A l.length c, .slice A' l.length c'] w fun e w' => e = .returned (.bool true) ∧ Below w.heap.size w w' := by
  have h := SameTexts_any A A' c c' (l.map sL) (l.map sL) w hr hr' (by rw [List.length_map]; omega) (by rw [List.length_map]; omega)
  rw [List.length_map] at h
  refine h.mono ?_
  rintro e w' ⟨rfl, m, rfl⟩
  exact ⟨by rw [eqT, decide_eq_true rfl], bdDNr (Below.refl _ _) m⟩
theorem nrL_len (s : ByteArray) : (nrL s).length ≤ 1000 := by
  unfold nrL
  rw [srt_len]
  have := nrT_len s
  have := List.length_filter_le rgV (nrT s)
  omega
set_option maxRecDepth 8000 in
set_option maxHeartbeats 2000000 in
theorem Nears_walk (s : ByteArray) (w : World) (hT : TabsR w) (hs : s.size ≤ 9223372036854775807) :
    Calls Tryd.prog 5 #[.string s] w fun e w' => e = .returned (.bool true) ∧ Below w.heap.size w w' := by
  have HT := Lib.hid hT
  clear hT
  cases hls : decide (200 < s.size)
  · have C1 := Lib.hid (fun w => long_is s _ w hs hls)
    have hs' : s.size ≤ 900 := by simp at hls; omega
    have T5 := Lib.hid (fun w h => Valid_any s w (by omega) h)
    have HK := Lib.hid (fun w h => known_ok w h)
    have HV := Lib.hid (show formB s false = false → validE s = 2 from fun h => by unfold validE; rw [h]; rfl)
    cases hf : formB s false
    · have T1 := Lib.hid (fun w => Near_not s w (by omega) hf)
      have T2 := Lib.hid (fun w => rNear_not s w (by omega) hf)
      rw [HV.out hf] at T5
      have T3 := Lib.hid (fun w => same_tsl [] none none 0 0 w Rd.nil_ Rd.nil_ (by simp))
      clear hls hs' hs hf HV
      go_enter Tryd.func5, Tryd.ntmps5
      go_wp2_with fail
      refine (C1.out w).mono ?_
      rintro e w' ⟨rfl, rfl⟩
      go_wp2_with fail
      refine (T1.out w).mono ?_
      rintro e w1 ⟨rfl, hb⟩
      have B1 := Lib.hid hb
      clear hb
      go_wp2_with fail
      refine (T2.out w1).mono ?_
      rintro e w2 ⟨rfl, hb⟩
      have B2 := Lib.hid (B1.out.trans (hb.mono B1.out.size))
      clear hb
      go_wp2_with fail
      refine (T3.out w2).mono ?_
      rintro e w3 ⟨rfl, hb⟩
      have B3 := Lib.hid (B2.out.trans (hb.mono B2.out.size))
      clear hb
      go_wp2_with fail
      refine (T5.out w3 (HT.out.below' B3.out)).mono ?_
      rintro e w4 ⟨rfl, hb⟩
      have B4 := Lib.hid (B3.out.trans (hb.mono B3.out.size))
      clear hb
      go_wp2_with fail
      refine (HK.out w4 (HT.out.below' B4.out)).mono ?_
      rintro e w5 ⟨rfl, hb⟩
      have B5 := Lib.hid (B4.out.trans (hb.mono B4.out.size))
      clear hb
      go_wp2_with fail
      go_ret
      exact ⟨rfl, B5.out⟩
    · have T1 := Lib.hid (fun w h => Near_any s w hf h)
      have T2 := Lib.hid (fun w => rNear_any s w hf)
      have T3 := Lib.hid (fun A A' c c' w h h' => same_tsl (nrL s) A A' c c' w h h' (nrL_len s))
      obtain ⟨E, hE⟩ : ∃ E, validE s = E := ⟨_, rfl⟩
      rw [hE] at T5
      by_cases h0 : E = 0
      · have hnil := nr_none (hE.trans h0)
        subst h0
        rw [hnil] at T1 T2 T3
        clear hls hs' hs hf HV hE hnil
        go_enter Tryd.func5, Tryd.ntmps5
        go_wp2_with fail
        refine (C1.out w).mono ?_
        rintro e w' ⟨rfl, rfl⟩
        go_wp2_with fail
        refine (T1.out w HT.out).mono ?_
        rintro e w1 ⟨A1, c1, rfl, ho, hb⟩
        have B1 := Lib.hid hb
        have R1 := Lib.hid (Rd.of_own ho)
        clear ho hb
        go_wp2_with fail
        refine (T2.out w1).mono ?_
        rintro e w2 ⟨A2, c2, rfl, hr2, hb⟩
        have B2 := Lib.hid (B1.out.trans (hb.mono B1.out.size))
        have R2 := Lib.hid hr2
        have R12 := Lib.hid ((R1.out.below hb (Nat.le_refl _)).more hb.size)
        clear hb hr2
        go_wp2_with fail
        refine (T3.out A1 A2 c1 c2 w2 R12.out R2.out).mono ?_
        rintro e w3 ⟨rfl, hb⟩
        have B3 := Lib.hid (B2.out.trans (hb.mono B2.out.size))
        clear hb
        go_wp2_with fail
        refine (T5.out w3 (HT.out.below' B3.out)).mono ?_
        rintro e w4 ⟨rfl, hb⟩
        have B4 := Lib.hid (B3.out.trans (hb.mono B3.out.size))
        clear hb
        go_wp2_with fail
        refine (HK.out w4 (HT.out.below' B4.out)).mono ?_
        rintro e w5 ⟨rfl, hb⟩
        have B5 := Lib.hid (B4.out.trans (hb.mono B4.out.size))
        clear hb
        go_wp2_with fail
        go_ret
        exact ⟨rfl, B5.out⟩
      · have e1 : (E != 0) = true := by simpa using h0
        clear hls hs' hs hf HV hE h0
        generalize nrL s = R at *
        generalize R.length = n at *
        go_enter Tryd.func5, Tryd.ntmps5
        go_wp2_with fail
        refine (C1.out w).mono ?_
        rintro e w' ⟨rfl, rfl⟩
        go_wp2_with fail
        refine (T1.out w HT.out).mono ?_
        rintro e w1 ⟨A1, c1, rfl, ho, hb⟩
        have B1 := Lib.hid hb
        have R1 := Lib.hid (Rd.of_own ho)
        clear ho hb
        go_wp2_with fail
        refine (T2.out w1).mono ?_
        rintro e w2 ⟨A2, c2, rfl, hr2, hb⟩
        have B2 := Lib.hid (B1.out.trans (hb.mono B1.out.size))
        have R2 := Lib.hid hr2
        have R12 := Lib.hid ((R1.out.below hb (Nat.le_refl _)).more hb.size)
        clear hb hr2
        go_wp2_with fail
        refine (T3.out A1 A2 c1 c2 w2 R12.out R2.out).mono ?_
        rintro e w3 ⟨rfl, hb⟩
        have B3 := Lib.hid (B2.out.trans (hb.mono B2.out.size))
        clear hb
        go_wp2_with fail
        refine (T5.out w3 (HT.out.below' B3.out)).mono ?_
        rintro e w4 ⟨rfl, hb⟩
        have B4 := Lib.hid (B3.out.trans (hb.mono B3.out.size))
        clear hb
        go_wp2_with fail
        refine (HK.out w4 (HT.out.below' B4.out)).mono ?_
        rintro e w5 ⟨rfl, hb⟩
        have B5 := Lib.hid (B4.out.trans (hb.mono B4.out.size))
        clear hb
        go_wp2_with fail
        go_ret
        exact ⟨rfl, B5.out⟩
  · have C1 := Lib.hid (fun w => long_is s _ w hs hls)
    clear hls
    go_enter Tryd.func5, Tryd.ntmps5
    go_wp2_with fail
    refine (C1.out w).mono ?_
    rintro e w' ⟨rfl, rfl⟩
    go_wp2_with fail
    refine (known_ok w HT.out).mono ?_
    rintro e w4 ⟨rfl, hbl⟩
    go_wp2_with fail
    go_ret
    exact ⟨rfl, hbl⟩
end Go.Proofs.YtoenecgjiejljaaDoor

/-
  Texts merged into one (Idx, Rc7): contracts of the functions of package lure, what is reckoned of games. Conditions: as each says.
-/
import Derived.Test.YtoenecgjiejljaaDoorMt4
import Derived.Test.YtoenecgjiejljaaDoorMt16
namespace Go.Proofs.YtoenecgjiejljaaDoor
open Go.RowKit
set_option linter.unusedVariables false

theorem run_index_arr {P : Program} {t e : TypeId} {n : Nat} {d : TypeDesc} {i : TypeInfo} (ht : P.underlying t = some (.array n e)) (he : P.underlying e = some d) (hd : (match d with | .struct _ | .array _ _ => true | _ => false) = false)
    (hi : P.info? e = some i) (h1 : i.size = 1) {U : Array Value} {p : Nat} {x : Value} (hp : p < n) (hx : U[p]? = some x) (w : World) :
    (Instr.index t (.agg U) (.int .i64 (p : Int))).run P w = .ok x w := by
  have hagg : (isAgg e).run P w = .ok false w := by
    unfold isAgg
    rw [Sem.run_bind, run_underlying he w]
    cases d <;> simp_all
  have hsz : (sizeOf e).run P w = .ok 1 w := by simp [sizeOf, typeInfo, hi, h1]
  have hb : (0 : Int) ≤ (p : Int) ∧ (p : Int) < (n : Int) := ⟨by omega, by omega⟩
  unfold Instr.index
  simp only [asIntOf, Sem.run_bind, Sem.run_pure, Result.andThen_ok, run_underlying ht w, if_pos hb, hsz, Int.toNat_natCast, Nat.mul_one]
  unfold part
  simp only [Sem.run_bind, hagg, Result.andThen_ok, hx]
  simp
end Go.Proofs.YtoenecgjiejljaaDoor
namespace Go.Proofs.YtoenecgjiejljaaDoor
open Go.RowKit
set_option linter.unusedVariables false

theorem ct_bad {s : ByteArray} (h : formB s true = false) : ctE s = 2 ∧ ctV s = 0 := by
  unfold ctE ctV
  rw [h]
  exact ⟨rfl, rfl⟩
theorem ct_ok {s : ByteArray} (h : formB s true = true) : ctE s = 0 ∧ ctV s = ((26 ^ wb (bl (headB s)) * wyL (wL s) 0 : Nat) : Int) := by
  unfold ctE ctV
  rw [h]
  exact ⟨rfl, rfl⟩
theorem head_len {s : ByteArray} : (bl (headB s)).length = s.size - 6 := by rw [bl_len]; simp [headB]
theorem pow26 {k : Nat} (hk : k ≤ 2) : 26 ^ k ≤ 676 := Nat.le_trans (Nat.pow_le_pow_right (by omega) hk) (by decide)
set_option maxRecDepth 8000 in
set_option maxHeartbeats 2000000 in
theorem Count_any (s : ByteArray) (w : World) (hsz : s.size ≤ 900) (hT : TabsR w) :
    Calls Tryd.prog 25 #[.string s] w fun e w' => e = .returned (.tuple #[.int .i64 (ctV s), .int .i64 (ctE s)]) ∧ Below w.heap.size w w' := by
  have H1 := Lib.hid (IsWorn_any s w (by omega))
  have HT := Lib.hid hT
  clear hT
  cases hf : formB s true with
  | false =>
    obtain ⟨e1, e2⟩ := ct_bad hf
    rw [hf] at H1
    rw [e1, e2]
    clear hf e1 e2 HT
    go_enter Tryd.func25, Tryd.ntmps25
    go_wp2_with fail
    refine H1.out.mono ?_
    rintro e w1 ⟨rfl, hb⟩
    go_wp2_with fail
    go_ret2
    exact ⟨rfl, hb⟩
  | true =>
  obtain ⟨e1, e2⟩ := ct_ok hf
  have hs := form_size hf
  have hwd := wl_dig hf
  have hnw := nW_tail hf
  have hwl : (wL s).length = 6 := wlK_length s 6
  rw [hf] at H1
  rw [e1, e2]
  have HC := Lib.hid (fun w => cut_any s w (by omega) (by omega))
  have HW := Lib.hid (fun w => countWorn_any (tailB s) w)
  have HW2 := Lib.hid (fun w => countWorn_any (headB s) w)
  have hh : wb (bl (headB s)) ≤ 2 := by have := wb_le (l := bl (headB s)); rw [head_len] at this; omega
  have hP1 := Lib.hid (fun w => power_any 26 (wb (bl (headB s))) w (by omega) (by omega))
  have hp26 := pow26 hh
  rw [← hnw] at HW
  have hn6 : nW (wL s) ≤ 6 := by have := List.countP_le_length (p := fun x => decide (x < 0)) (l := wL s); unfold nW; omega
  rcases wyl_zero hwd (by omega) with ⟨h0, h1, h2⟩ | ⟨h0, h1, h2⟩ | ⟨h0, h2⟩
  · obtain ⟨hp1, hp2⟩ := wl_plain hf h0
    have HD := Lib.hid (fun w => digitsOf_any (tailB s) w (by rw [size_tailB (by omega)]; omega) hp2)
    have HS := Lib.hid (fun A c w hr ht => sum_n A 6 c (digs (tailB s)) w (by rw [digs_tailB (by omega)]; exact tailK_length s 6) hr (dig_digs hp2) (by omega) ht)
    rw [digs_tailB (by omega), ← hp1, h1] at HS
    unfold MadeInts at HD
    rw [digs_tailB (by omega), ← hp1, hwl] at HD
    rw [h0] at HW
    rw [h2, Nat.mul_one]
    have hP2 := Lib.hid (fun w => power_any 10 0 w (by omega) (by omega))
    generalize headB s = H at *
    generalize tailB s = T at *
    generalize wL s = L at *
    generalize wb (bl H) = n at *
    generalize 26 ^ n = P at *
    clear hf e1 e2 hs hwd hnw hp1 hp2
    go_enter Tryd.func25, Tryd.ntmps25
    go_wp2_with fail
    refine H1.out.mono ?_
    rintro e w1 ⟨rfl, hb⟩
    have B1 := Lib.hid hb
    clear hb
    go_wp2_with fail
    refine (HC.out w1).mono ?_
    rintro e w2 ⟨rfl, m, rfl⟩
    have B2 := Lib.hid (below_drewN B1.out m)
    generalize w1.drewN m = w2 at *
    go_wp2_with fail
    refine (HW.out w2).mono ?_
    rintro e w3 ⟨rfl, rfl⟩
    go_wp2_with fail
    refine (HD.out w2).mono ?_
    rintro e w3 ⟨A, c, rfl, hr, hb⟩
    have R3 := Lib.hid hr
    have B3 := Lib.hid (B2.out.trans (hb.mono B2.out.size))
    clear hb hr
    go_wp2_with fail
    refine (HS.out A c w3 R3.out (HT.out.below' B3.out)).mono ?_
    rintro e w4 ⟨rfl, m4, rfl⟩
    have B4 := Lib.hid (below_drewN B3.out m4)
    generalize w3.drewN m4 = w4 at *
    go_wp2_with fail
    refine (HW2.out w4).mono ?_
    rintro e w5 ⟨rfl, rfl⟩
    go_wp2_with fail
    refine (hP1.out w4).mono ?_
    rintro e w5 ⟨rfl, rfl⟩
    go_wp2_with fail
    refine (hP2.out w4).mono ?_
    rintro e w5 ⟨rfl, rfl⟩
    go_wp2_with fail
    go_ret2
    exact ⟨rfl, B4.out⟩
  · obtain ⟨hp1, hp2⟩ := wl_plain hf h0
    have HD := Lib.hid (fun w => digitsOf_any (tailB s) w (by rw [size_tailB (by omega)]; omega) hp2)
    have HS := Lib.hid (fun A c w hr ht => sum_n A 6 c (digs (tailB s)) w (by rw [digs_tailB (by omega)]; exact tailK_length s 6) hr (dig_digs hp2) (by omega) ht)
    rw [digs_tailB (by omega), ← hp1] at HS
    unfold MadeInts at HD
    rw [digs_tailB (by omega), ← hp1, hwl] at HD
    rw [h0] at HW
    rw [h2, Nat.mul_zero]
    have z1 : (sumL (wL s) != 0) = true := by simpa using h1
    generalize headB s = H at *
    generalize tailB s = T at *
    generalize sumL (wL s) = S at *
    generalize wL s = L at *
    clear hf e1 e2 hs hwd hnw hp1 hp2
    go_enter Tryd.func25, Tryd.ntmps25
    go_wp2_with fail
    refine H1.out.mono ?_
    rintro e w1 ⟨rfl, hb⟩
    have B1 := Lib.hid hb
    clear hb
    go_wp2_with fail
    refine (HC.out w1).mono ?_
    rintro e w2 ⟨rfl, m, rfl⟩
    have B2 := Lib.hid (below_drewN B1.out m)
    generalize w1.drewN m = w2 at *
    go_wp2_with fail
    refine (HW.out w2).mono ?_
    rintro e w3 ⟨rfl, rfl⟩
    go_wp2_with fail
    refine (HD.out w2).mono ?_
    rintro e w3 ⟨A, c, rfl, hr, hb⟩
    have R3 := Lib.hid hr
    have B3 := Lib.hid (B2.out.trans (hb.mono B2.out.size))
    clear hb hr
    go_wp2_with fail
    refine (HS.out A c w3 R3.out (HT.out.below' B3.out)).mono ?_
    rintro e w4 ⟨rfl, m4, rfl⟩
    have B4 := Lib.hid (below_drewN B3.out m4)
    generalize w3.drewN m4 = w4 at *
    go_wp2_with fail
    go_ret2
    exact ⟨rfl, B4.out⟩
  · rw [h2]
    obtain ⟨k, hk⟩ : ∃ k, nW (wL s) = k + 1 := ⟨nW (wL s) - 1, by omega⟩
    rw [hk] at HW ⊢
    rw [Nat.add_sub_cancel]
    have hP2 := Lib.hid (fun w => power_any 10 k w (by omega) (by omega))
    have hp10 : 10 ^ k ≤ 100000 := Nat.le_trans (Nat.pow_le_pow_right (by omega) (show k ≤ 5 by omega)) (by decide)
    have q1 : ((k + 1 : Nat) : Int) - 1 = (k : Int) := by omega
    have hm : ((26 ^ wb (bl (headB s)) * 10 ^ k : Nat) : Int) = ((26 ^ wb (bl (headB s)) : Nat) : Int) * ((10 ^ k : Nat) : Int) := Int.natCast_mul _ _
    have hm2 : 26 ^ wb (bl (headB s)) * 10 ^ k ≤ 676 * 100000 := Nat.mul_le_mul hp26 hp10
    have m0 : 0 ≤ ((26 ^ wb (bl (headB s)) : Nat) : Int) * ((10 ^ k : Nat) : Int) := by rw [← hm]; omega
    have m1 : ((26 ^ wb (bl (headB s)) : Nat) : Int) * ((10 ^ k : Nat) : Int) ≤ 67600000 := by rw [← hm]; omega
    have k5 : (k : Int) + 1 ≤ 100 := by omega
    rw [hm]
    generalize headB s = H at *
    generalize tailB s = T at *
    generalize wL s = L at *
    generalize wb (bl H) = n at *
    generalize 26 ^ n = P at *
    generalize 10 ^ k = Q at *
    have hwr2 : wrap64 ((P : Int) * (Q : Int)) = (P : Int) * (Q : Int) := by unfold wrap64; omega
    clear hf e1 e2 hs hwd hnw hm hm2 hk h2 h0 hn6
    go_enter Tryd.func25, Tryd.ntmps25
    go_wp2_with fail
    refine H1.out.mono ?_
    rintro e w1 ⟨rfl, hb⟩
    have B1 := Lib.hid hb
    clear hb
    go_wp2_with fail
    refine (HC.out w1).mono ?_
    rintro e w2 ⟨rfl, m, rfl⟩
    have B2 := Lib.hid (below_drewN B1.out m)
    generalize w1.drewN m = w2 at *
    go_wp2_with fail
    refine (HW.out w2).mono ?_
    rintro e w3 ⟨rfl, rfl⟩
    go_wp2_with fail
    refine (HW2.out w2).mono ?_
    rintro e w5 ⟨rfl, rfl⟩
    go_wp2_with fail
    refine (hP1.out w2).mono ?_
    rintro e w5 ⟨rfl, rfl⟩
    go_wp2_with fail
    refine (hP2.out w2).mono ?_
    rintro e w5 ⟨rfl, rfl⟩
    go_wp2_with fail
    go_ret2
    exact ⟨rfl, B2.out⟩
theorem wb_next {l : List UInt8} {k : Nat} {c : UInt8} (h : l[k]? = some c) : wb (l.take (k + 1)) = wb (l.take k) + if c = 63 then 1 else 0 := by
  unfold wb
  rw [List.take_add_one, h]
  simp only [Option.toList_some, List.count_append]
  by_cases hc : c = 63
  · simp [hc]
  · simp [hc]
theorem tenIdx (f : Nat → Int) (w : World) : (Instr.index 82 (.agg (rowV (moV f) 10)) (.int .i64 0)).run Tryd.prog w = .ok (.int .i64 (f 0)) w := by
  obtain ⟨i0, hi, hz0, hz1, hz2⟩ := info_parts Tryd.infoInt
  exact run_index_arr (p := 0) Tryd.underlying82 Tryd.underlying3 rfl hi hz1 (by omega) (show (rowV (moV f) 10)[0]? = some (.int .i64 (f 0)) from rowV_at (by omega)) w
set_option maxRecDepth 8000 in
set_option maxHeartbeats 2000000 in
theorem rCount_any (s : ByteArray) (w : World) (hsz : s.size ≤ 900) :
    Calls Tryd.prog 26 #[.string s] w fun e w' => e = .returned (.tuple #[.int .i64 (ctV s), .int .i64 (ctE s)]) ∧ Below w.heap.size w w' := by
  have H1 := Lib.hid (rIsWorn_any s w (by omega))
  cases hf : formB s true with
  | false =>
    obtain ⟨e1, e2⟩ := ct_bad hf
    rw [hf] at H1
    rw [e1, e2]
    clear hf e1 e2
    go_enter Tryd.func26, Tryd.ntmps26
    go_wp2_with fail
    refine (H1.out).mono ?_
    rintro e w' ⟨rfl, rfl⟩
    go_wp2_with fail
    go_ret2
    exact ⟨rfl, Below.refl _ _⟩
  | true =>
  obtain ⟨e1, e2⟩ := ct_ok hf
  have hs := form_size hf
  have hwl : (wL s).length = 6 := wlK_length s 6
  rw [hf] at H1
  rw [e1, e2]
  have HD := Lib.hid (fun w => wornDigits_any s w (by omega) (by omega))
  unfold MadeInts at HD
  rw [hwl] at HD
  have HC := Lib.hid (fun A c w hr => counted_any A c (wL s) w hr (wl_dig hf) hwl)
  have hY : wyL (wL s) 0 ≤ 1000000 := wy_le (t := 0) (wl_dig hf) (by omega) (by decide)
  have hI := tenIdx (wvF (wL s))
  have hv0 : wvF (wL s) 0 = ((wyL (wL s) 0 : Nat) : Int) := rfl
  rw [hv0] at hI
  obtain ⟨h, hh⟩ : ∃ h, s.size = h + 6 := ⟨s.size - 6, by omega⟩
  have hhl : (bl (headB s)).length = h := by rw [head_len]; omega
  have h2 : h ≤ 2 := by omega
  have HB := Lib.hid (show ∀ k, k < h → (bl (headB s))[k]? = some (s.data.toList.getD k 0) from fun k hk => by
    unfold headB
    rw [bl_extract, List.drop_zero, List.getElem?_take, if_pos (by omega), List.getD_eq_getElem?_getD]
    have : k < (bl s).length := by rw [bl_len]; omega
    rw [List.getElem?_eq_getElem this]
    show _ = some ((bl s)[k]?.getD 0)
    rw [List.getElem?_eq_getElem this]; rfl)
  have HX := Lib.hid (show ∀ (k : Nat) (hk : k < s.size), s.data.toList.getD k 0 = s[k]'hk from fun k hk => by
    rw [List.getD_eq_getElem?_getD, List.getElem?_eq_getElem (by simpa using hk)]; rfl)
  have q1 : ((s.size : Int) - 6) = (h : Int) := by omega
  have hh2 : (h : Int) ≤ 2 := by omega
  have HH := Lib.hid hh
  have HHL := Lib.hid hhl
  clear hf e1 e2 hwl hv0 hs hh hhl
  generalize wL s = L at *
  generalize wyL L 0 = Y at *
  generalize rowV (moV (wvF L)) 10 = row at *
  generalize bl (headB s) = hd at *
  go_enter Tryd.func26, Tryd.ntmps26
  go_wp2_with fail
  refine (H1.out).mono ?_
  rintro e w' ⟨rfl, rfl⟩
  go_wp2_with fail
  refine (HD.out w).mono ?_
  rintro e w1 ⟨A, c, rfl, hr, hb⟩
  have R1 := Lib.hid hr
  have B1 := Lib.hid hb
  clear hb hr
  go_wp2_with fail
  refine (HC.out A c w1 R1.out).mono ?_
  rintro e w2 ⟨rfl, hb⟩
  have B2 := Lib.hid (B1.out.trans (hb.mono B1.out.size))
  clear hb
  go_wp2_with fail
  go_loop [4, 5] (fun v i => ∃ k : Nat, k ≤ h ∧ i = .int .i64 k ∧ v = .int .i64 ((26 ^ wb (hd.take k) * Y : Nat) : Int)) (fun _ i => h - (intOf i).toNat)
  case atStart => exact ⟨0, by omega, rfl, by simp [wb]⟩
  case round =>
    obtain ⟨k, hk, rfl, rfl⟩ := hrel
    by_cases hlt : k < h
    · have hp : k < s.size := by have := HH.out; omega
      have hN := wb_next (HB.out k hlt)
      rw [HX.out k hp] at hN
      have hlt' : (k : Int) < (h : Int) := by omega
      have hwbk : wb (hd.take k) ≤ 1 := by have := wb_le (l := hd.take k); rw [List.length_take] at this; omega
      have hpk : 26 ^ wb (hd.take k) ≤ 26 := Nat.le_trans (Nat.pow_le_pow_right (by omega) hwbk) (by decide)
      have hmm : 26 ^ wb (hd.take k) * Y ≤ 26 * 1000000 := Nat.mul_le_mul hpk hY
      have HN := Lib.hid hN
      have hb0 := UInt8.toNat_lt (s[k]'hp)
      clear hN hwbk hpk
      obtain ⟨P, hP⟩ : ∃ P, 26 ^ wb (hd.take k) * Y = P := ⟨_, rfl⟩
      have HP := Lib.hid hP
      rw [hP] at hmm
      rw [hP]
      clear hP
      by_cases hc : s[k]'hp = 63
      · have q2 : (((s[k]'hp).toNat : Int) == 63) = true := by rw [hc]; decide
        have q3 : ((s[k]'hp).toNat == 63) = true := by rw [hc]; decide
        have HZ := Lib.hid (show 26 ^ wb (hd.take (k + 1)) * Y = P * 26 by rw [HN.out, if_pos hc, Nat.pow_succ, ← HP.out, Nat.mul_right_comm])
        clear hc
        go_wp2_with fail
        go_round
        case rel => exact ⟨k + 1, by omega, by go_num, by rw [HZ.out]; go_num⟩
        case measure => simp [intOf]; omega
      · have hne : (s[k]'hp).toNat ≠ 63 := fun e => hc (UInt8.toNat_inj.1 e)
        have q2 : (((s[k]'hp).toNat : Int) == 63) = false := by rw [beq_eq_false_iff_ne]; omega
        have q3 : ((s[k]'hp).toNat == 63) = false := by rw [beq_eq_false_iff_ne]; exact hne
        have HZ := Lib.hid (show 26 ^ wb (hd.take (k + 1)) * Y = P by rw [HN.out, if_neg hc, Nat.add_zero, HP.out])
        clear hc hne
        go_wp2_with fail
        go_round
        case rel => exact ⟨k + 1, by omega, by go_num, by rw [HZ.out]⟩
        case measure => simp [intOf]; omega
    · obtain rfl : k = h := by omega
      have HF := Lib.hid (show hd.take k = hd from List.take_of_length_le (by rw [HHL.out]; omega))
      rw [HF.out]
      go_wp2_with fail
      go_ret2
      exact ⟨rfl, B2.out⟩
end Go.Proofs.YtoenecgjiejljaaDoor

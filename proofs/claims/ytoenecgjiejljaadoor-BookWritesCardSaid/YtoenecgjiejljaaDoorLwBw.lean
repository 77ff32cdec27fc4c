/-
  The walk of the law BookWrites: it returns true. Conditions: the list can be read; the tables that a row lists.
-/
import Derived.Test.YtoenecgjiejljaaDoorBw2
import Derived.Test.YtoenecgjiejljaaDoorLwBh1
namespace Go.Proofs.YtoenecgjiejljaaDoor
open Go.RowKit
set_option linter.unusedVariables false

theorem bl_self_ne (s : ByteArray) : (!(s.toList == s.toList)) = false := by simp
theorem sL_at {l : List UInt8} {k : Nat} (hk : k < (sL l).size) : (sL l)[k]'hk = l[k]'(by rw [sL_size] at hk; exact hk) := rfl
set_option maxRecDepth 8000 in
set_option maxHeartbeats 4000000 in
theorem Writes_walk (A : Option Addr) (c : Nat) (l : List ByteArray) (cut : Int) (w : World) (hr : Rd w w.heap.size A (txts l)) (hs : Sz l) (hc : l.length ≤ c) (hcm : c ≤ 9223372036854775807) (hT : Tb w) :
    Calls Tryd.prog 10 #[.slice A l.length c, .int .i64 cut] w fun e w' => e = .returned (.bool true) ∧ Below w.heap.size w w' := by
  have HT := Lib.hid hT
  have HR := Lib.hid hr
  have HK := Lib.hid (fun w => known_any w)
  have HLg := Lib.hid (Long_any A c l w hr (by omega))
  cases hlg : longB l with
  | true =>
    rw [hlg] at HLg
    clear hlg hr hs hT HT HR
    go_enter Tryd.func10, Tryd.ntmps10
    go_wp2_with fail
    refine (HLg.out).mono ?_
    rintro e w' ⟨rfl, rfl⟩
    go_wp2_with fail
    refine (HK.out _).mono ?_
    rintro e w1 ⟨rfl, hb⟩
    go_wp2_with fail
    go_ret
    exact ⟨rfl, hb⟩
  | false =>
  rw [hlg] at HLg
  have T1 := Lib.hid (Write_any A c l w hr hs (by omega) hT)
  have T2 := Lib.hid (fun w h => rWrite_any A c l w h hs (by omega))
  have b1 := bl_self_ne (sL (wrS l))
  by_cases hv : vpE l = 0
  case neg =>
    have z1 : (vpE l != 0) = true := by simpa using hv
    clear hlg hr hs hT hv
    generalize vpE l = E at *
    generalize sL (wrS l) = S at *
    go_enter Tryd.func10, Tryd.ntmps10
    go_wp2_with fail
    refine (HLg.out).mono ?_
    rintro e w' ⟨rfl, rfl⟩
    go_wp2_with fail
    refine T1.out.mono ?_
    rintro e w1 ⟨rfl, hb⟩
    have B1 := Lib.hid hb
    have R1 := Lib.hid ((HR.out.below hb (Nat.le_refl _)).more hb.size)
    clear hb
    go_wp2_with fail
    refine (T2.out w1 R1.out).mono ?_
    rintro e w2 ⟨rfl, hb⟩
    have B2 := Lib.hid (B1.out.trans (hb.mono B1.out.size))
    clear hb
    go_wp2_with fail
    refine (HK.out _).mono ?_
    rintro e w3 ⟨rfl, hb⟩
    have B3 := Lib.hid (B2.out.trans (hb.mono B2.out.size))
    clear hb
    go_wp2_with fail
    go_ret
    exact ⟨rfl, B3.out⟩
  obtain ⟨h64, hpg⟩ := vpE_ok hv
  have hsm := rt_sm (smsL_sm l)
  have hWS : wrS l = wrL l := if_pos hv
  have H60 := Lib.hid (show ∀ s ∈ l, s.size ≤ 60 from fun s hs => by
    have h := hpg s hs
    unfold pgB at h
    simp only [Bool.and_eq_true, decide_eq_true_eq] at h
    exact h.1.2)
  have hhl := hdL_len (n := l.length) (x := (rt (smsL l)).toNat) (by omega) (by have := hsm.2; omega)
  have hwl := wrB_len l H60.out
  have hrd := fun r => wr_read hv r
  have hcp : pgl (canon l.length (rt (smsL l)).toNat) = true := canon_page h64 (by have := hsm.2; omega)
  have hc10 := pgl_no10 hcp
  have hhd : hdL l.length (rt (smsL l)).toNat = canon l.length (rt (smsL l)).toNat ++ [10] := rfl
  have hWL : wrL l = hdL l.length (rt (smsL l)).toNat ++ wrB l := rfl
  rw [hv] at T1 T2
  rw [hWS, hWL] at T1 T2 b1
  generalize hcn : canon l.length (rt (smsL l)).toNat = cn at *
  generalize hdL l.length (rt (smsL l)).toNat = h at *
  obtain ⟨cl, hcl⟩ : ∃ cl, cn.length = cl := ⟨_, rfl⟩
  have hhl2 : h.length = cl + 1 := by rw [hhd, List.length_append, hcl]; rfl
  obtain ⟨bz, hbz⟩ : ∃ bz, (wrB l).length = bz := ⟨_, rfl⟩
  have htl : (h ++ wrB l).length = cl + 1 + bz := by rw [List.length_append, hhl2, hbz]
  obtain ⟨j0, q0, hj0, r1, r2, r3, r4, r5⟩ := hrd (wrB l).length
  rw [List.take_length] at r1 r2 r3 r4
  obtain ⟨e1, e2⟩ := r5 (Nat.le_refl _)
  subst e1 e2
  rw [List.take_of_length_le (by rw [List.length_map]; exact Nat.le_refl _)] at r2
  have T3 := Lib.hid (fun w h' => Read_any (h ++ wrB l) w (by omega) h')
  rw [r1, r2, r3] at T3
  unfold txl at T3
  rw [map_sL_bl, List.length_map] at T3
  have T4 := Lib.hid (fun A1 c1 w h1 h2 => SameTexts_any A1 A c1 c l l w h1 h2 (by omega) (by omega))
  rw [eqT_self] at T4
  have hz : (sL ([] : List UInt8)) = ⟨#[]⟩ := rfl
  rw [hz] at T3
  have HX := Lib.hid (show ∀ (k : Nat) (hk : k < (sL (h ++ wrB l)).size), k < cl → ((sL (h ++ wrB l))[k]'hk).toNat ≠ 10 from fun k hk hlt e => by
    have hm : (h ++ wrB l)[k]'(by rw [sL_size] at hk; exact hk) ∈ cn := by
      have : (h ++ wrB l)[k]'(by rw [sL_size] at hk; exact hk) = cn[k]'(by omega) := by
        rw [List.getElem_append_left (by omega)]
        simp only [hhd]
        rw [List.getElem_append_left (by omega)]
      rw [this]
      exact List.getElem_mem _
    have h10 : (h ++ wrB l)[k]'(by rw [sL_size] at hk; exact hk) = 10 := UInt8.toNat_inj.1 e
    rw [h10] at hm
    exact hc10 hm)
  have HX2 := Lib.hid (show ∀ (hk : cl < (sL (h ++ wrB l)).size), ((sL (h ++ wrB l))[cl]'hk).toNat = 10 from fun hk => by
    have : (h ++ wrB l)[cl]'(by rw [sL_size] at hk; exact hk) = 10 := by
      rw [List.getElem_append_left (by omega)]
      simp only [hhd]
      rw [List.getElem_append_right (by omega)]
      simp [hcl]
    rw [sL_at, this]
    rfl)
  have hsz : (sL (h ++ wrB l)).size = cl + 1 + bz := by rw [sL_size, htl]
  have HSZ := Lib.hid hsz
  have H64 := Lib.hid h64
  have hcl9 : cl ≤ 60 := by omega
  have hbz9 : bz ≤ 5000 := by omega
  obtain ⟨D, hD⟩ : ∃ D, 1 + bz = D := ⟨_, rfl⟩
  obtain ⟨r, hr1, hr2⟩ : ∃ r : Nat, (IntKind.u64.wrap cut).tmod (D : Int) = (r : Int) ∧ r < D := by
    have h0 : 0 ≤ IntKind.u64.wrap cut := by
      show 0 ≤ cut % 18446744073709551616
      omega
    have hD0 : (0 : Int) < (D : Int) := by omega
    have hm0 := Int.emod_nonneg (IntKind.u64.wrap cut) (b := (D : Int)) (by omega)
    have hm1 := Int.emod_lt_of_pos (IntKind.u64.wrap cut) hD0
    refine ⟨((IntKind.u64.wrap cut).tmod (D : Int)).toNat, ?_, ?_⟩
    · rw [Int.tmod_eq_emod_of_nonneg h0]; omega
    · rw [Int.tmod_eq_emod_of_nonneg h0]; omega
  have q8 : ((sL (h ++ wrB l)).size : Int) - (cl : Int) = (D : Int) := by omega
  obtain ⟨k, hk⟩ : ∃ k, cl + 1 + r = k := ⟨_, rfl⟩
  have q9 : (cl : Int) + 1 + (r : Int) = (k : Int) := by omega
  have hext : (sL (h ++ wrB l)).extract 0 k = sL (h ++ (wrB l).take r) := by
    apply bl_inj
    rw [bl_extract, bl_sL, bl_sL, List.drop_zero, Nat.sub_zero, ← hk, ← hhl2, List.take_length_add_append]
  obtain ⟨j, q, hj, s1, s2, s3, s4, _⟩ := hrd r
  have hql : (wrB (l.take j)).length + q.length = r := by rw [← s4, List.length_take]; omega
  have T5 := Lib.hid (fun w h' => Read_any (h ++ (wrB l).take r) w (by rw [List.length_append, List.length_take]; omega) h')
  rw [s1, s2, s3] at T5
  unfold txl at T5
  rw [← List.map_take, map_sL_bl, List.length_map] at T5
  have htk : (l.take j).length = j := by rw [List.length_take]; omega
  rw [htk] at T5
  have T6 := Lib.hid (fun A1 c1 w h1 h2 => SameTexts_any A1 A c1 j (l.take j) (l.take j) w h1 h2 (by omega) (by omega))
  rw [eqT_self, htk] at T6
  have hqs : (sL q).size = q.length := sL_size q
  have HE := Lib.hid hext
  have HQL := Lib.hid hql
  have HWN := Lib.hid (show ∀ i s, l[i]? = some s → (wrB (l.take (i + 1))).length = (wrB (l.take i)).length + s.size + 1 from fun i s hx => by
    rw [List.take_add_one, hx]
    unfold wrB
    simp [bl_len, Nat.add_assoc])
  have HQ5 := Lib.hid (show ∀ i, (wrB (l.take i)).length ≤ 61 * 64 from fun i => by
    have := wrB_len (l.take i) fun s hs => H60.out s (List.mem_of_mem_take hs)
    rw [List.length_take] at this
    omega)
  have k0 : (0 : Int) ≤ (k : Int) := by omega
  have k1 : (k : Int) ≤ ((sL (h ++ wrB l)).size : Int) := by omega
  have HK1 := Lib.hid hk
  have d1 : decide ((l.length : Int) < (j : Int)) = false := decide_eq_false (by omega)
  have d1' : decide (l.length < j) = false := decide_eq_false (by omega)
  have j0' : (0 : Int) ≤ (j : Int) := by omega
  have j1' : (j : Int) ≤ (c : Int) := by omega
  have HJ := Lib.hid hj
  have HTK := Lib.hid htk
  have q10 : q.length ≤ 6000 := by omega
  have D0 : (0 : Int) < (D : Int) := by omega
  have D1 : (D : Int) ≤ 6000 := by omega
  clear hlg hr hs hT hv hpg hsm hWS hhl hwl hrd hcp hc10 hhd hWL hcn hhl2 hbz htl hj0 r1 r2 r3 r4 r5 hz hsz hD hext s1 s2 s3 s4 hql hk htk
  generalize sL (h ++ (wrB l).take r) = P2 at *
  generalize sL (h ++ wrB l) = P1 at *
  generalize sL q = q1 at *
  go_enter Tryd.func10, Tryd.ntmps10
  go_wp2_with fail
  refine (HLg.out).mono ?_
  rintro e w' ⟨rfl, rfl⟩
  go_wp2_with fail
  refine T1.out.mono ?_
  rintro e w1 ⟨rfl, hb⟩
  have B1 := Lib.hid hb
  have R1 := Lib.hid ((HR.out.below hb (Nat.le_refl _)).more hb.size)
  clear hb
  go_wp2_with fail
  refine (T2.out w1 R1.out).mono ?_
  rintro e w2 ⟨rfl, hb⟩
  have B2 := Lib.hid (B1.out.trans (hb.mono B1.out.size))
  clear hb
  go_wp2_with fail
  refine (T3.out w2 (HT.out.up B2.out)).mono ?_
  rintro e w3 ⟨A3, c3, rfl, _, hr3, hb⟩
  have B3 := Lib.hid (B2.out.trans (hb.mono B2.out.size))
  have R3 := Lib.hid hr3
  clear hb hr3
  go_wp2_with fail
  refine (T4.out A3 c3 w3 R3.out ((HR.out.below B3.out (Nat.le_refl _)).more B3.out.size)).mono ?_
  rintro e w4 ⟨rfl, m, rfl⟩
  have B4 := Lib.hid (bdDN B3.out m)
  generalize w3.drewN m = w4 at *
  go_wp2_with fail
  go_loop [12] (fun i => ∃ n : Nat, n ≤ cl ∧ i = .int .i64 n) (fun i => cl - (intOf i).toNat)
  case atStart => exact ⟨0, by omega, rfl⟩
  case round =>
    obtain ⟨n, hn, rfl⟩ := hrel
    have hp : n < P1.size := by have := HSZ.out; omega
    have n0 : (0 : Int) ≤ (n : Int) := by omega
    by_cases hlt : n < cl
    · have hne := HX.out n hp hlt
      have x1 : ((((P1[n]'hp).toNat : Nat) : Int) == 10) = false := by rw [beq_eq_false_iff_ne]; omega
      have x2 : ((P1[n]'hp).toNat == 10) = false := by rw [beq_eq_false_iff_ne]; exact hne
      clear hne
      go_wp2_with fail
      go_round
      case rel => exact ⟨n + 1, by omega, by go_num⟩
      case measure => simp [intOf]; omega
    · obtain rfl : n = cl := by omega
      have heq := HX2.out hp
      have x1 : ((((P1[n]'hp).toNat : Nat) : Int) == 10) = true := by rw [heq]; rfl
      have x2 : ((P1[n]'hp).toNat == 10) = true := by rw [heq]; rfl
      clear heq HX HX2
      go_wp2_with fail
      rw [HE.out]
      refine (T5.out w4 (HT.out.up B4.out)).mono ?_
      rintro e w5 ⟨A5, c5, rfl, _, hr5, hb⟩
      have B5 := Lib.hid (B4.out.trans (hb.mono B4.out.size))
      have R5 := Lib.hid hr5
      have RL := Lib.hid (show Rd w5 w5.heap.size A (txts (l.take j)) from by
        rw [← txts_take]
        exact ((HR.out.below B5.out (Nat.le_refl _)).more B5.out.size).take j)
      clear hb hr5 x1 x2 q8 hr1 D0 D1
      go_wp2_with fail
      refine (T6.out A5 c5 w5 R5.out RL.out).mono ?_
      rintro e w6 ⟨rfl, m6, rfl⟩
      have B6 := Lib.hid (bdDN B5.out m6)
      have R6 := Lib.hid (show Rd (w5.drewN m6) (w5.drewN m6).heap.size A5 (txts (l.take j)) from R5.out)
      generalize w5.drewN m6 = w6 at *
      go_wp2_with fail
      go_loop [17, 18] (fun v i => ∃ n2 : Nat, n2 ≤ j ∧ i = .int .i64 n2 ∧ v = .int .i64 ((n : Int) + 1 + (q.length : Int) + ((wrB (l.take n2)).length : Nat))) (fun _ i => j - (intOf i).toNat)
      case atStart => exact ⟨0, by omega, rfl, by simp [wrB]⟩
      case round =>
        obtain ⟨i, hi, rfl, rfl⟩ := hrel
        by_cases hij : i < j
        · obtain ⟨b9, o9, s, hA9, hx9, hc9⟩ := R6.out.txt i (by rw [HTK.out]; exact hij)
          have hxl : l[i]? = some s := by
            have := hx9.out
            rw [List.getElem?_take, if_pos hij] at this
            exact this
          have HN := Lib.hid (HWN.out i s hxl)
          have s60 := H60.out s (List.mem_of_getElem? hxl)
          have hq5 := HQ5.out i
          have i1 : (i : Int) < (j : Int) := by omega
          subst hA9
          clear hxl
          generalize (wrB (l.take i)).length = X at *
          go_wp2_with fail
          go_round
          case rel => exact ⟨i + 1, by omega, by go_num, by rw [HN.out]; go_num⟩
          case measure => simp [intOf]; omega
        · obtain rfl : i = j := by omega
          have hfin : (n : Int) + 1 + (q.length : Int) + ((wrB (l.take i)).length : Nat) = (k : Int) := by
            have h1 := HQL.out
            have h2 := HK1.out
            omega
          rw [hfin]
          clear hfin
          go_wp2_with fail
          refine (HK.out w6).mono ?_
          rintro e w7 ⟨rfl, hb⟩
          have B7 := Lib.hid (B6.out.trans (hb.mono B6.out.size))
          clear hb
          go_wp2_with fail
          go_ret
          exact ⟨rfl, B7.out⟩
end Go.Proofs.YtoenecgjiejljaaDoor

/-
  The walk of TopBook: it returns true. Conditions: the list can be read; the tables that a row lists.
-/
import Derived.Test.YtoenecgjiejljaaDoorBte
import Derived.Test.YtoenecgjiejljaaDoorBw2
import Derived.Test.YtoenecgjiejljaaDoorBhf
namespace Go.Proofs.YtoenecgjiejljaaDoor
open Go.RowKit
set_option linter.unusedVariables false

theorem umod {x : Int} {D : Nat} (hD : 0 < D) : ∃ r : Nat, (IntKind.u64.wrap x).tmod (D : Int) = (r : Int) ∧ r < D := by
  have h0 : 0 ≤ IntKind.u64.wrap x := by
    show 0 ≤ x % 18446744073709551616
    omega
  have hD0 : (0 : Int) < (D : Int) := by omega
  have hm0 := Int.emod_nonneg (IntKind.u64.wrap x) (b := (D : Int)) (by omega)
  have hm1 := Int.emod_lt_of_pos (IntKind.u64.wrap x) hD0
  refine ⟨((IntKind.u64.wrap x).tmod (D : Int)).toNat, ?_, ?_⟩
  · rw [Int.tmod_eq_emod_of_nonneg h0]; omega
  · rw [Int.tmod_eq_emod_of_nonneg h0]; omega
theorem same_text (s : ByteArray) : (s.toList == s.toList) = true := by simp
set_option maxRecDepth 16000 in
set_option maxHeartbeats 8000000 in
theorem TopB_walk (A : Option Addr) (c : Nat) (l : List ByteArray) (m n : Int) (w : World) (hr : Rd w w.heap.size A (txts l)) (hs : Sz l) (hc : l.length ≤ c) (hcm : c ≤ 9223372036854775807) (hT : Tb w) :
    Calls Tryd.prog 11 #[.slice A l.length c, .int .i64 m, .int .i64 n] w fun e w' => e = .returned (.bool true) ∧ Below w.heap.size w w' := by
  have HT := Lib.hid hT
  have L0 := Lib.hid hr
  have HJ := Lib.hid (knJ w)
  have B0 := Lib.hid (Below.refl w.heap.size w)
  have HLg := Lib.hid (Long_any A c l w hr (by omega))
  cases hlg : longB l with
  | true =>
    rw [hlg] at HLg
    clear hlg hr hs hT HT L0
    go_enter Tryd.func11, Tryd.ntmps11
    go_wp2_with fail
    refine (HJ.out).mono ?_
    rintro e w' ⟨rfl, rfl⟩
    go_wp2_with fail
    refine (HLg.out).mono ?_
    rintro e w' ⟨rfl, rfl⟩
    go_wp2_with fail
    go_ret
    exact ⟨rfl, B0.out⟩
  | false =>
  rw [hlg] at HLg
  have H1 := Lib.hid (Root_any A c l w hr hs (by omega))
  by_cases hv : vpE l = 0
  case neg =>
    have z1 : (vpE l != 0) = true := by simpa using hv
    have z2 : rootV l = 0 := if_neg hv
    rw [z2] at H1
    clear hlg hr hs hT hv z2
    generalize vpE l = E at *
    go_enter Tryd.func11, Tryd.ntmps11
    go_wp2_with fail
    refine (HJ.out).mono ?_
    rintro e w' ⟨rfl, rfl⟩
    go_wp2_with fail
    refine (HLg.out).mono ?_
    rintro e w' ⟨rfl, rfl⟩
    go_wp2_with fail
    refine H1.out.mono ?_
    rintro e w1 ⟨rfl, hb⟩
    go_wp2_with fail
    go_ret
    exact ⟨rfl, hb⟩
  rw [hv] at H1
  rcases Nat.eq_zero_or_pos l.length with hl0 | hl0
  · have z2 : rootV l = 0 := by
      have : l = [] := List.eq_nil_of_length_eq_zero hl0
      subst this
      decide +kernel
    rw [z2] at H1
    rw [hl0] at H1 HLg ⊢
    clear hlg hr hs hT hv z2
    go_enter Tryd.func11, Tryd.ntmps11
    go_wp2_with fail
    refine (HJ.out).mono ?_
    rintro e w' ⟨rfl, rfl⟩
    go_wp2_with fail
    refine (HLg.out).mono ?_
    rintro e w' ⟨rfl, rfl⟩
    go_wp2_with fail
    refine H1.out.mono ?_
    rintro e w1 ⟨rfl, hb⟩
    go_wp2_with fail
    go_ret
    exact ⟨rfl, hb⟩
  have z0 : ((l.length : Int) == 0) = false := by rw [beq_eq_false_iff_ne]; omega
  have z0' : (l.length == 0) = false := by rw [beq_eq_false_iff_ne]; omega
  obtain ⟨h64, hpg⟩ := vpE_ok hv
  have HS := Lib.hid hs
  have HP := Lib.hid (fun (i : Nat) w h => Proof_any A c l (i : Int) w h hs (by omega))
  have HCP := Lib.hid (fun (i : Nat) (s : ByteArray) (hx : l[i]? = some s) => (show prE l (i : Int) = 0 ∧ cpE (rootV l) s (i : Int) (l.length : Int) (prL l (i : Int)) = 0 from by
    have hi := (List.getElem?_eq_some_iff.1 hx).1
    have hE : prE l (i : Int) = 0 := by unfold prE; rw [if_pos hv, if_pos (by omega)]
    exact ⟨hE, proof_checks hE hx⟩))
  obtain ⟨n1, hn1, hn2⟩ := umod (x := n) hl0
  obtain ⟨N, hN⟩ : ∃ N, 1 + n1 = N := ⟨_, rfl⟩
  have qN : (1 : Int) + (n1 : Int) = (N : Int) := by omega
  obtain ⟨m1, hm1, hm2⟩ := umod (x := m) (show 0 < N by omega)
  obtain ⟨M, hM⟩ : ∃ M, 1 + m1 = M := ⟨_, rfl⟩
  have qM : (1 : Int) + (m1 : Int) = (M : Int) := by omega
  have hNl : N ≤ l.length := by omega
  have hMN : M ≤ N := by omega
  have hM1 : 1 ≤ M := by omega
  have htN : (l.take N).length = N := by rw [List.length_take]; omega
  have htM : (l.take M).length = M := by rw [List.length_take]; omega
  have hvN := vpE_take hv N
  have hvM := vpE_take hv M
  have hsN : Sz (l.take N) := fun s h => hs s (List.mem_of_mem_take h)
  have hsM : Sz (l.take M) := fun s h => hs s (List.mem_of_mem_take h)
  have htt : (l.take N).take M = l.take M := by rw [List.take_take]; congr 1; omega
  -- the contracts
  have R1 := Lib.hid (fun w h => Root_any A M (l.take M) w h hsM (by omega))
  have R2 := Lib.hid (fun A' c' w h => Root_any A' c' (l.take N) w h hsN (by omega))
  have G1 := Lib.hid (fun A' c' w h => Growth_any A' c' (l.take N) (M : Int) w h hsN (by omega))
  have G2 := Lib.hid (fun w h => Growth_any A c l (N : Int) w h hs (by omega))
  have G3 := Lib.hid (fun w h => Growth_any A c l (M : Int) w h hs (by omega))
  have gE1 : gwE (l.take N) (M : Int) = 0 := by unfold gwE; rw [if_pos hvN, if_pos (by omega)]
  have gE2 : gwE l (N : Int) = 0 := by unfold gwE; rw [if_pos hv, if_pos (by omega)]
  have gE3 : gwE l (M : Int) = 0 := by unfold gwE; rw [if_pos hv, if_pos (by omega)]
  have C1 := (gw_checks gE1).2.2
  have C2 := (gw_checks gE2).2.2
  have C3 := (gw_checks gE3).2.2
  rw [htt, htN] at C1
  have K1 := Lib.hid (fun A' c' w h h' => CheckGrowth_any (rootV (l.take M)) (rootV (l.take N)) (M : Int) (N : Int) A' c' (gwL (l.take N) (M : Int)) w h (by rw [gw_len]; exact h') (by
    rw [gw_len]; unfold gwN; rw [if_pos gE1]; exact Nat.le_trans (gs_le _ _ _) (by omega)))
  have K2 := Lib.hid (fun A' c' w h h' => CheckGrowth_any (rootV (l.take N)) (rootV l) (N : Int) (l.length : Int) A' c' (gwL l (N : Int)) w h (by rw [gw_len]; exact h') (by
    rw [gw_len]; unfold gwN; rw [if_pos gE2]; exact Nat.le_trans (gs_le _ _ _) (by omega)))
  have K3 := Lib.hid (fun A' c' w h h' => CheckGrowth_any (rootV (l.take M)) (rootV l) (M : Int) (l.length : Int) A' c' (gwL l (M : Int)) w h (by rw [gw_len]; exact h') (by
    rw [gw_len]; unfold gwN; rw [if_pos gE3]; exact Nat.le_trans (gs_le _ _ _) (by omega)))
  rw [C1, gw_len] at K1
  rw [C2, gw_len] at K2
  rw [C3, gw_len] at K3
  rw [htM, hvM] at R1
  rw [htN, hvN] at R2
  rw [htN, gE1] at G1
  rw [gE2] at G2
  rw [gE3] at G3
  have W1 := Lib.hid (fun w h ht => Write_any A c l w h hs (by omega) ht)
  have W2 := Lib.hid (fun A' c' w h ht => Write_any A' c' (l.take N) w h hsN (by omega) ht)
  have eW1 : wrS l = wrL l := if_pos hv
  have eW2 : wrS (l.take N) = wrL (l.take N) := if_pos hvN
  rw [eW1, hv] at W1
  rw [eW2, htN, hvN] at W2
  have hlen := fun (l : List ByteArray) (hv : vpE l = 0) => (show (wrL l).length ≤ 9000 from by
    obtain ⟨h64, hpg⟩ := vpE_ok hv
    have hsm := rt_sm (smsL_sm l)
    have h1 := hdL_len (n := l.length) (x := (rt (smsL l)).toNat) (by omega) (by have := hsm.2; omega)
    have h2 := wrB_len l fun s hs => by
      have h := hpg s hs
      unfold pgB at h
      simp only [Bool.and_eq_true, decide_eq_true_eq] at h
      exact h.1.2
    unfold wrL
    rw [List.length_append]
    omega)
  have MG := Lib.hid (fun w ht => Merge_any (wrL (l.take N)) (wrL l) w (hlen _ hvN) (hlen _ hv) ht)
  rw [mg_take hv hNl] at MG
  unfold MgPost at MG
  have CO := Lib.hid (fun A' c' w h h' => Common_any A' A c' c (l.take N) l w h h' hsN hs (by omega) (by omega))
  have eC : coE (l.take N) l = 0 := by unfold coE; rw [if_pos hvN]; exact hv
  have eCV : coV (l.take N) l = (N : Int) := by unfold coV; rw [if_pos eC, cm_self_take l N hNl]
  rw [htN, eC, eCV] at CO
  have bself := same_text (sL (wrL l))
  have H64 := Lib.hid h64
  have HNl := Lib.hid hNl
  have HMN := Lib.hid hMN
  have HTN := Lib.hid htN
  have HTM := Lib.hid htM
  have hPL := Lib.hid (fun i => pr_len l i)
  have hP64 := Lib.hid (show ∀ i, prN l i ≤ 64 from fun i => by
    unfold prN
    split
    · exact Nat.le_trans (dp_le _ _) h64
    · omega)
  have HCk := Lib.hid (fun (i : Nat) (s : ByteArray) (hx : l[i]? = some s) A' c' w h h1 => CheckPage_any (rootV l) s (i : Int) (l.length : Int) A' c' (prL l (i : Int)) w h h1 (by have h1 := hPL.out (i : Int); have h2 := hP64.out (i : Int); omega) (HS.out s (List.mem_of_getElem? hx)))
  clear hlg hr hs hT hv hpg gE1 gE2 gE3 C1 C2 C3 eW1 eW2 hlen eC eCV hvN hvM hsN hsM htt hn2 hm2 hN hM h64 htN htM
  generalize rootV l = root at *
  generalize rootV (l.take N) = rN at *
  generalize rootV (l.take M) = rM at *
  generalize gwN (l.take N) (M : Int) = g1 at *
  generalize gwL (l.take N) (M : Int) = gl1 at *
  generalize gwN l (N : Int) = g2 at *
  generalize gwL l (N : Int) = gl2 at *
  generalize gwN l (M : Int) = g3 at *
  generalize gwL l (M : Int) = gl3 at *
  generalize sL (wrL (l.take N)) = part at *
  change Hid (∀ w, Tb w → Calls _ _ _ _ fun e w' => e = .returned (.tuple #[.string (sL (wrL l)), .int .i64 (l.length : Int), .int .i64 0]) ∧ Below w.heap.size w w') at MG
  generalize sL (wrL l) = whole at *
  go_enter Tryd.func11, Tryd.ntmps11
  go_wp2_with fail
  refine (HJ.out).mono ?_
  rintro e w' ⟨rfl, rfl⟩
  go_wp2_with fail
  refine (HLg.out).mono ?_
  rintro e w' ⟨rfl, rfl⟩
  go_wp2_with fail
  refine (H1.out).mono ?_
  rintro e w1 ⟨rfl, hb⟩
  have B1 := Lib.hid (B0.out.trans (hb.mono B0.out.size))
  have L1 := Lib.hid (L0.out.upb hb)
  clear hb
  go_wp2_with fail
  go_loopw [11] (fun i wr => ∃ k : Nat, k ≤ l.length ∧ i = .int .i64 k ∧ Below w.heap.size w wr) (fun i _ => l.length - (intOf i).toNat)
  case atStart => exact ⟨0, by omega, rfl, B1.out⟩
  case round =>
    obtain ⟨k, hk, rfl, hbk⟩ := hrel
    have BK := Lib.hid hbk
    have LK := Lib.hid ((L0.out.below hbk (Nat.le_refl _)).more hbk.size)
    clear hbk
    by_cases hlt : k < l.length
    · obtain ⟨s, hx⟩ : ∃ s, l[k]? = some s := ⟨_, List.getElem?_eq_getElem hlt⟩
      obtain ⟨pE, cE⟩ := HCP.out k s hx
      have HPk := Lib.hid (fun w h => HP.out k w h)
      have HCk1 := Lib.hid (fun A' c' w h h1 => HCk.out k s hx A' c' w h (by rw [pr_len]; exact h1))
      rw [pE] at HPk
      rw [cE, pr_len] at HCk1
      have HX := Lib.hid hx
      have i1 : (k : Int) < (l.length : Int) := by omega
      have i0 : (0 : Int) ≤ (k : Int) := by omega
      generalize prN l (k : Int) = pn at *
      generalize prL l (k : Int) = pl at *
      clear hx pE cE
      go_wp2_with fail
      refine (HPk.out wr LK.out).mono ?_
      rintro e w2 ⟨A2, c2, rfl, hc2, hr2, hb⟩
      have R2k := Lib.hid hr2
      have C2k := Lib.hid hc2
      have B2k := Lib.hid (BK.out.trans (hb.mono BK.out.size))
      obtain ⟨b9, o9, s9, hA9, hx9, hc9⟩ := (LK.out.upb hb).txt k hlt
      obtain rfl : s9 = s := by
        have h1 := hx9.out
        rw [HX.out] at h1
        exact (Option.some.inj h1).symm
      subst hA9
      clear hb hr2 hc2
      go_wp2_with fail
      refine (HCk1.out A2 c2 w2 R2k.out C2k.out).mono ?_
      rintro e w3 ⟨rfl, hb⟩
      have B3k := Lib.hid (B2k.out.trans (hb.mono B2k.out.size))
      clear hb
      go_wp2_with fail
      go_roundw
      case rel => exact ⟨k + 1, by omega, by go_num, B3k.out⟩
      case measure => simp [intOf]; omega
    · obtain rfl : k = l.length := by omega
      obtain ⟨w2, hw2⟩ : ∃ w2 : World, w2 = wr := ⟨_, rfl⟩
      rw [← hw2] at BK LK ⊢
      have B2 := Lib.hid BK.out
      have L2 := Lib.hid LK.out
      have D0 : (0 : Int) < (l.length : Int) := by omega
      have D1 : (l.length : Int) ≤ 64 := by have := H64.out; omega
      have D2 : (0 : Int) < (N : Int) := by omega
      have D3 : (N : Int) ≤ (l.length : Int) := by omega
      have D4 : (N : Int) ≤ (c : Int) := by omega
      have D5 : (M : Int) ≤ (N : Int) := by omega
      have D6 : (M : Int) ≤ (c : Int) := by omega
      have D7 : (0 : Int) ≤ (M : Int) := by omega
      have D8 : (n1 : Int) ≤ 64 := by omega
      have D9 : (m1 : Int) ≤ 64 := by omega
      have N64 : N ≤ 64 := by have := H64.out; omega
      clear hw2 hlt BK LK H1 HP HCP HCk hPL hP64 HJ HLg
      go_wp2_with ((with_reducible show wpList _ _ _ (⟨some 102, _, _, _, _, _⟩ :: _) _ _); refine app eTxt rfl _ _ rfl rfl (own_lit w2 9 1 (Nat.le_refl _)) ((Below.refl w2.heap.size w2).alloc (Nat.le_refl _) _) (size_alloc' (Nat.le_refl _) _) rfl ((L2.out.take N).below ((Below.refl w2.heap.size w2).alloc (Nat.le_refl _) _) (Nat.le_refl _)) (by rw [txts_take, txts_length, HTN.out]; omega) (by rw [txts_take]; exact txts_one _) N (by omega) (by omega) ?_; intro A4 c4 w4 o4 b4 g4 _; have O4 := Lib.hid o4; have X4 := Lib.hid b4; clear o4 b4 g4)
      have B4 := Lib.hid (B2.out.trans (X4.out.mono B2.out.size))
      have L4 := Lib.hid (L2.out.upb X4.out)
      have Q4 := Lib.hid (show Rd w4 w4.heap.size A4 (txts (l.take N)) from by
        have := Rd.of_own O4.out
        rw [List.nil_append, txts_take] at this
        exact this)
      clear O4 X4
      refine (R1.out w4 (show Rd w4 w4.heap.size A (txts (l.take M)) from by rw [← txts_take]; exact L4.out.take M)).mono ?_
      rintro e w5 ⟨rfl, hb⟩
      have B5 := Lib.hid (B4.out.trans (hb.mono B4.out.size))
      have L5 := Lib.hid (L4.out.upb hb)
      have Q5 := Lib.hid (Q4.out.upb hb)
      clear hb
      go_wp2_with fail
      refine (R2.out A4 c4 w5 Q5.out).mono ?_
      rintro e w6 ⟨rfl, hb⟩
      have B6 := Lib.hid (B5.out.trans (hb.mono B5.out.size))
      have L6 := Lib.hid (L5.out.upb hb)
      have Q6 := Lib.hid (Q5.out.upb hb)
      clear hb
      go_wp2_with fail
      refine (G1.out A4 c4 w6 Q6.out).mono ?_
      rintro e w7 ⟨A7, c7, rfl, hc7, hr7, hb⟩
      have B7 := Lib.hid (B6.out.trans (hb.mono B6.out.size))
      have L7 := Lib.hid (L6.out.upb hb)
      have Q7 := Lib.hid (Q6.out.upb hb)
      have P7 := Lib.hid hr7
      have E7 := Lib.hid hc7
      clear hc7 hr7
      clear hb
      go_wp2_with fail
      refine (G2.out w7 L7.out).mono ?_
      rintro e w8 ⟨A8, c8, rfl, hc8, hr8, hb⟩
      have B8 := Lib.hid (B7.out.trans (hb.mono B7.out.size))
      have L8 := Lib.hid (L7.out.upb hb)
      have Q8 := Lib.hid (Q7.out.upb hb)
      have P8 := Lib.hid (P7.out.upb hb)
      have U8 := Lib.hid hr8
      have E8 := Lib.hid hc8
      clear hc8 hr8
      clear hb
      go_wp2_with fail
      refine (G3.out w8 L8.out).mono ?_
      rintro e w9 ⟨A9, c9, rfl, hc9, hr9, hb⟩
      have B9 := Lib.hid (B8.out.trans (hb.mono B8.out.size))
      have L9 := Lib.hid (L8.out.upb hb)
      have Q9 := Lib.hid (Q8.out.upb hb)
      have P9 := Lib.hid (P8.out.upb hb)
      have U9 := Lib.hid (U8.out.upb hb)
      have V9 := Lib.hid hr9
      have E9 := Lib.hid hc9
      clear hc9 hr9
      clear hb
      go_wp2_with fail
      refine (K1.out A7 c7 w9 P9.out E7.out).mono ?_
      rintro e w10 ⟨rfl, hb⟩
      have B10 := Lib.hid (B9.out.trans (hb.mono B9.out.size))
      have L10 := Lib.hid (L9.out.upb hb)
      have Q10 := Lib.hid (Q9.out.upb hb)
      have U10 := Lib.hid (U9.out.upb hb)
      have V10 := Lib.hid (V9.out.upb hb)
      clear hb
      go_wp2_with fail
      refine (K2.out A8 c8 w10 U10.out E8.out).mono ?_
      rintro e w11 ⟨rfl, hb⟩
      have B11 := Lib.hid (B10.out.trans (hb.mono B10.out.size))
      have L11 := Lib.hid (L10.out.upb hb)
      have Q11 := Lib.hid (Q10.out.upb hb)
      have V11 := Lib.hid (V10.out.upb hb)
      clear hb
      go_wp2_with fail
      refine (K3.out A9 c9 w11 V11.out E9.out).mono ?_
      rintro e w12 ⟨rfl, hb⟩
      have B12 := Lib.hid (B11.out.trans (hb.mono B11.out.size))
      have L12 := Lib.hid (L11.out.upb hb)
      have Q12 := Lib.hid (Q11.out.upb hb)
      clear hb
      go_wp2_with fail
      refine (W1.out w12 L12.out (HT.out.up B12.out)).mono ?_
      rintro e w13 ⟨rfl, hb⟩
      have B13 := Lib.hid (B12.out.trans (hb.mono B12.out.size))
      have L13 := Lib.hid (L12.out.upb hb)
      have Q13 := Lib.hid (Q12.out.upb hb)
      clear hb
      go_wp2_with fail
      refine (W2.out A4 c4 w13 Q13.out (HT.out.up B13.out)).mono ?_
      rintro e w14 ⟨rfl, hb⟩
      have B14 := Lib.hid (B13.out.trans (hb.mono B13.out.size))
      have L14 := Lib.hid (L13.out.upb hb)
      have Q14 := Lib.hid (Q13.out.upb hb)
      clear hb
      go_wp2_with fail
      refine (MG.out w14 (HT.out.up B14.out)).mono ?_
      rintro e w15 ⟨rfl, hb⟩
      have B15 := Lib.hid (B14.out.trans (hb.mono B14.out.size))
      have L15 := Lib.hid (L14.out.upb hb)
      have Q15 := Lib.hid (Q14.out.upb hb)
      clear hb
      go_wp2_with fail
      refine (CO.out A4 c4 w15 Q15.out L15.out).mono ?_
      rintro e w16 ⟨rfl, hb⟩
      have B16 := Lib.hid (B15.out.trans (hb.mono B15.out.size))
      go_wp2_with fail
      go_ret
      exact ⟨rfl, B16.out⟩
end Go.Proofs.YtoenecgjiejljaaDoor

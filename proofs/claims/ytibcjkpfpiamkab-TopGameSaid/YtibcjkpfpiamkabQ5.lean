/-
  Texts merged into one (LwProofs, Lu18, Lu19, LwTraps, LwCertifies, Lb5, Lu20, Lu21): contracts of the functions of package lure, what is reckoned of games. Conditions: as each says.
-/
import Derived.Test.YtibcjkpfpiamkabQ4
import Derived.Test.YtibcjkpfpiamkabQ3
namespace Go.Proofs.Ytibcjkpfpiamkab
open Go.RowKit
set_option linter.unusedVariables false

theorem free_neg {G : Gm} {L R : List Int} (h : crE G L R = 0) {k : Nat} {d : Int} (hd : (freL G L)[k]? = some d) : ∃ n : Nat, d = (n : Int) ∧ n < R.length ∧ ∀ r, R[n]? = some r → r < 0 := by
  obtain ⟨h1, h2, _⟩ := crE_zero h
  obtain ⟨hG, hs⟩ := askE_zero h1
  have hg : gatN L < 2 ^ G.own.length := gat_lt hs (by have := (gE_zero hG).le; omega)
  unfold freL at hd
  rw [if_pos h1] at hd
  obtain ⟨n, hn, _, hb⟩ := listK_mem (List.mem_of_getElem? hd)
  have hnl := bit_in (free_lt G (gatN L)) hb
  refine ⟨n, hn, by rw [(areL_iff.1 h2).2]; exact hnl, fun r hr => ?_⟩
  rw [free_at hnl, Bool.not_eq_true'] at hb
  rcases Int.lt_or_le r 0 with h3 | h3
  · exact h3
  · have := cr_free h hg hnl (by rw [List.getD_eq_getElem?_getD, hr]; exact h3)
    rw [hb] at this
    cases this
end Go.Proofs.Ytibcjkpfpiamkab
namespace Go.Proofs.Ytibcjkpfpiamkab
open Go.RowKit
set_option linter.unusedVariables false

theorem ask_two (g : Gv) (A : Option Addr) (c : Nat) (L : List Int) (A2 : Option Addr) (c2 : Nat) (T : List Int) (W : World) (hr : RdG W W.heap.size g) (hf : Gfit g) (hq : Rd W W.heap.size A (ints L)) (hn : L.length ≤ 9223372036854775807) (hq2 : Rd W W.heap.size A2 (ints T)) (hn2 : T.length ≤ 9223372036854775807) :
    ∃ W2, W.alloc (.cells #[.slice A L.length c, .slice A2 T.length c2] 22) = W2 ∧ Below W.heap.size W W2 ∧
      Calls Try.prog 19 #[g.v, .slice (some ⟨W.heap.size, 0, none⟩) 2 2] W2 fun e w' => e = .returned (.int .i64 (chkE g.G [L, T])) ∧ Below W2.heap.size W2 w' := by
  have hb : Below W.heap.size W (W.alloc (.cells #[.slice A L.length c, .slice A2 T.length c2] 22)) := (Below.refl _ _).alloc (Nat.le_refl _) _
  have h1 : Rd (W.alloc (.cells #[.slice A L.length c, .slice A2 T.length c2] 22)) (W.alloc (.cells #[.slice A L.length c, .slice A2 T.length c2] 22)).heap.size (some ⟨W.heap.size, 0, none⟩) [(⟨A, c, L⟩ : Rw).v, (⟨A2, c2, T⟩ : Rw).v] := Rd.lit W [.slice A L.length c, .slice A2 T.length c2] 22
  have hR : RdR (W.alloc (.cells #[.slice A L.length c, .slice A2 T.length c2] 22)) (W.alloc (.cells #[.slice A L.length c, .slice A2 T.length c2] 22)).heap.size (some ⟨W.heap.size, 0, none⟩) [⟨A, c, L⟩, ⟨A2, c2, T⟩] :=
    ⟨h1, fun r hr => by
      simp only [List.mem_cons, List.not_mem_nil, or_false] at hr
      rcases hr with rfl | rfl
      · exact hq.up hb
      · exact hq2.up hb⟩
  have h := check_any g (some ⟨W.heap.size, 0, none⟩) 2 [⟨A, c, L⟩, ⟨A2, c2, T⟩] _ (hr.up hb) hf hR (fun r hr => by
    simp only [List.mem_cons, List.not_mem_nil, or_false] at hr
    rcases hr with rfl | rfl
    · exact hn
    · exact hn2) (by simp)
  rw [show [(⟨A, c, L⟩ : Rw), ⟨A2, c2, T⟩].map (·.l) = [L, T] from rfl] at h
  exact ⟨_, rfl, hb, h⟩
theorem chk_two (G : Gm) (L T : List Int) : chkE G [L, T] = (if askE G L = 0 then (if setL G.own.length T = true then 0 else 1) else askE G L) := by
  unfold chkE askE
  by_cases h0 : gE G = 0
  · rw [if_pos h0, if_pos h0]
    cases hL : setL G.own.length L <;> cases hT : setL G.own.length T <;> simp [hL, hT]
  · rw [if_neg h0, if_neg h0, if_neg h0]
theorem ct_bad {G : Gm} {L T : List Int} (h : ¬ chkE G [L, T] = 0) : ctE G L T = chkE G [L, T] := by
  rw [chk_two] at h ⊢
  unfold ctE
  by_cases h1 : askE G L = 0
  · rw [if_pos h1] at h ⊢
    by_cases h2 : setL G.own.length T = true
    · rw [if_pos h2] at h; exact absurd rfl h
    · rw [if_neg h2] at h ⊢; rw [if_pos h1, if_neg h2]
  · rw [if_neg h1, if_neg h1]
theorem ct_ok {G : Gm} {L T : List Int} (h : chkE G [L, T] = 0) : askE G L = 0 ∧ setL G.own.length T = true ∧ ctE G L T = (if trB G (gatN L) (gatN T) = true then 0 else 7) := by
  rw [chk_two] at h
  by_cases h1 : askE G L = 0
  · rw [if_pos h1] at h
    by_cases h2 : setL G.own.length T = true
    · refine ⟨h1, h2, ?_⟩
      unfold ctE
      rw [if_pos h1, if_pos h2]
    · rw [if_neg h2] at h; cases h
  · rw [if_neg h1] at h; exact absurd h h1
/-- A trap, as the program asks. -/
theorem tr_bits {G : Gm} {L T : List Int} (h16 : G.own.length ≤ 16) (hL : setL G.own.length L = true) (hT : setL G.own.length T = true) : trB G (gatN L) (gatN T) = (!mtB (gatN T) (gatN L) && liB (gatN T) (fcN G 1 (gatN T))) := by
  have hTl : gatN T < 2 ^ G.own.length := gat_lt hT (by omega)
  have hf : fcN G 1 (gatN T) < 4294967296 := by
    have h1 := fcN_lt G 1 (gatN T)
    have h2 : 2 ^ G.own.length ≤ 2 ^ 16 := Nat.pow_le_pow_right (by omega) h16
    omega
  rw [Bool.eq_iff_iff, trB_iff hTl, Bool.and_eq_true, Bool.not_eq_true', mt_hit hT (by omega), li_sub (show gatN T < 4294967296 from bit32 _) hf]
  unfold hit
  rw [List.any_eq_false]
  constructor
  · intro h
    refine ⟨fun d hd => ?_, fun j hj => ?_⟩
    · have h1 := set_mem hT hd
      have := (h d.toNat (by rw [gat_at hT (by omega), memB_iff, show ((d.toNat : Nat) : Int) = d by omega]; exact hd)).1
      rw [this]; decide
    · rw [fcN_iff]
      exact ⟨bit_in hTl hj, (h j hj).2⟩
  · rintro ⟨h1, h2⟩ p hp
    refine ⟨?_, (fcN_iff.1 (h2 p hp)).2⟩
    have := h1 (p : Int) (by rw [gat_at hT (by omega), memB_iff] at hp; exact hp)
    rw [Int.toNat_natCast] at this
    simpa using this
set_option maxRecDepth 4000 in
set_option maxHeartbeats 3200000 in
theorem CheckTrap_any (g : Gv) (A : Option Addr) (c : Nat) (L : List Int) (A2 : Option Addr) (c2 : Nat) (T : List Int) (w : World) (hr : RdG w w.heap.size g) (hf : Gfit g) (hq : Rd w w.heap.size A (ints L)) (hn : L.length ≤ 9223372036854775807) (hq2 : Rd w w.heap.size A2 (ints T)) (hn2 : T.length ≤ 9223372036854775807) :
    Calls Try.prog 10 #[g.v, .slice A L.length c, .slice A2 T.length c2] w fun e w' => e = .returned (.int .i64 (ctE g.G L T)) ∧ Below w.heap.size w w' := by
  obtain ⟨W, hW, p0, p1, hz, hb, hr1⟩ := box_game w g 25 hr
  have R1 := Lib.hid (hq.up hb)
  have S1 := Lib.hid (hq2.up hb)
  have B0 := Lib.hid hb
  obtain ⟨W2, hW2, hb2, HC⟩ := ask_two g A c L A2 c2 T W hr1 hf R1.out hn S1.out hn2
  have B2 := Lib.hid (hb.trans (hb2.mono hb.size))
  have HCh := Lib.hid HC
  have RG2 := Lib.hid (hr1.up hb2)
  have R2 := Lib.hid (R1.out.up hb2)
  have S2 := Lib.hid (S1.out.up hb2)
  have q0 := cell_keep p0 hb2 hz
  have q1 := cell_keep p1 hb2 hz
  have hz2 : w.heap.size < W2.heap.size := Nat.lt_of_lt_of_le hz hb2.size
  by_cases hE : chkE g.G [L, T] = 0
  · obtain ⟨hA, hsT, hct⟩ := ct_ok hE
    obtain ⟨hG0, hs⟩ := askE_zero hA
    have h16 : g.own.length ≤ 16 := (gE_zero hG0).le
    rw [hE] at HCh
    rw [tr_bits h16 hs hsT] at hct
    have HG := Lib.hid (fun w h => gather_any A c L g.own.length w h hn hs (by omega))
    have HG2 := Lib.hid (fun w h => gather_any A2 c2 T g.own.length w h hn2 hsT (by omega))
    have HM := Lib.hid (fun w => meets_any (gatN T) (gatN L) w (bit32 _) (bit32 _))
    have hx : fcN g.G 1 (gatN T) < 4294967296 := by
      have h1 := fcN_lt g.G 1 (gatN T)
      have h2 : 2 ^ g.G.own.length ≤ 2 ^ 16 := Nat.pow_le_pow_right (by omega) h16
      omega
    have HL := Lib.hid (fun w => liesIn_any (gatN T) (fcN g.G 1 (gatN T)) w (bit32 _) hx)
    have HF := Lib.hid (fun w h => forced_any g 1 (gatN T) w h hf hG0 (bit32 _))
    have HCt := Lib.hid hct
    clear hr hf hq hn hq2 hn2 hb hr1 hb2 HC hE hA hG0 hs hsT h16 hx hct
    unfold Gv.v at HCh HF ⊢
    generalize g.G = G at *
    obtain ⟨A0, c0, own, A1, c1, rs⟩ := g
    simp only at hW p0 p1 q0 q1 HCh HF HG HG2 ⊢
    generalize fcN G 1 (gatN T) = X at *
    cases hm : mtB (gatN T) (gatN L)
    · cases hl : liB (gatN T) X
      · rw [hm, hl] at HCt
        rw [hm] at HM
        rw [hl] at HL
        clear hm hl
        obtain ⟨N, hN⟩ : ∃ N, ctE G L T = N := ⟨_, rfl⟩
        rw [hN] at HCt ⊢
        have hN7 : N = 7 := HCt.out
        clear HCt hN
        subst hN7
        go_enter Try.func10, Try.ntmps10
        go_wp2_with fail
        refine (HCh.out).mono ?_
        rintro e w3 ⟨rfl, hb⟩
        have B3 := Lib.hid (B2.out.trans (hb.mono B2.out.size))
        have RG3 := Lib.hid (RG2.out.up hb)
        have R3 := Lib.hid (R2.out.up hb)
        have S3 := Lib.hid (S2.out.up hb)
        have r0 := cell_keep q0 hb hz2
        have r1 := cell_keep q1 hb hz2
        clear hb q0 q1 p0 p1 hW hW2
        go_wp2_with fail
        refine (HG2.out w3 S3.out).mono ?_
        rintro e w' ⟨rfl, rfl⟩
        go_wp2_with fail
        refine (HG.out w3 R3.out).mono ?_
        rintro e w' ⟨rfl, rfl⟩
        go_wp2_with fail
        refine (HM.out w3).mono ?_
        rintro e w' ⟨rfl, rfl⟩
        go_wp2_with fail
        refine (HF.out w3 RG3.out).mono ?_
        rintro e w4 ⟨rfl, hb⟩
        have B4 := Lib.hid (B3.out.trans (hb.mono B3.out.size))
        clear hb
        go_wp2_with fail
        refine (HL.out w4).mono ?_
        rintro e w' ⟨rfl, rfl⟩
        go_wp2_with fail
        go_ret
        exact ⟨rfl, B4.out⟩
      · rw [hm, hl] at HCt
        rw [hm] at HM
        rw [hl] at HL
        clear hm hl
        obtain ⟨N, hN⟩ : ∃ N, ctE G L T = N := ⟨_, rfl⟩
        rw [hN] at HCt ⊢
        have hN7 : N = 0 := HCt.out
        clear HCt hN
        subst hN7
        go_enter Try.func10, Try.ntmps10
        go_wp2_with fail
        refine (HCh.out).mono ?_
        rintro e w3 ⟨rfl, hb⟩
        have B3 := Lib.hid (B2.out.trans (hb.mono B2.out.size))
        have RG3 := Lib.hid (RG2.out.up hb)
        have R3 := Lib.hid (R2.out.up hb)
        have S3 := Lib.hid (S2.out.up hb)
        have r0 := cell_keep q0 hb hz2
        have r1 := cell_keep q1 hb hz2
        clear hb q0 q1 p0 p1 hW hW2
        go_wp2_with fail
        refine (HG2.out w3 S3.out).mono ?_
        rintro e w' ⟨rfl, rfl⟩
        go_wp2_with fail
        refine (HG.out w3 R3.out).mono ?_
        rintro e w' ⟨rfl, rfl⟩
        go_wp2_with fail
        refine (HM.out w3).mono ?_
        rintro e w' ⟨rfl, rfl⟩
        go_wp2_with fail
        refine (HF.out w3 RG3.out).mono ?_
        rintro e w4 ⟨rfl, hb⟩
        have B4 := Lib.hid (B3.out.trans (hb.mono B3.out.size))
        clear hb
        go_wp2_with fail
        refine (HL.out w4).mono ?_
        rintro e w' ⟨rfl, rfl⟩
        go_wp2_with fail
        go_ret
        exact ⟨rfl, B4.out⟩
    · rw [hm] at HCt HM
      clear hm
      obtain ⟨N, hN⟩ : ∃ N, ctE G L T = N := ⟨_, rfl⟩
      rw [hN] at HCt ⊢
      have hN7 : N = 7 := by have h := HCt.out; simpa using h
      clear HCt hN
      subst hN7
      go_enter Try.func10, Try.ntmps10
      go_wp2_with fail
      refine (HCh.out).mono ?_
      rintro e w3 ⟨rfl, hb⟩
      have B3 := Lib.hid (B2.out.trans (hb.mono B2.out.size))
      have R3 := Lib.hid (R2.out.up hb)
      have S3 := Lib.hid (S2.out.up hb)
      clear hb q0 q1 p0 p1 hW hW2
      go_wp2_with fail
      refine (HG2.out w3 S3.out).mono ?_
      rintro e w' ⟨rfl, rfl⟩
      go_wp2_with fail
      refine (HG.out w3 R3.out).mono ?_
      rintro e w' ⟨rfl, rfl⟩
      go_wp2_with fail
      refine (HM.out w3).mono ?_
      rintro e w' ⟨rfl, rfl⟩
      go_wp2_with fail
      go_ret
      exact ⟨rfl, B3.out⟩
  · have HE := Lib.hid (ct_bad (T := T) hE)
    generalize chkE g.G [L, T] = E at *
    have hb1 : (E == 0) = false := by simpa using hE
    have hb2' : (E != 0) = true := by simpa using hE
    clear hr hf hq hn hq2 hn2 hb hr1 hb2 HC hE
    unfold Gv.v at HCh ⊢
    generalize g.G = G at *
    obtain ⟨A0, c0, own, A1, c1, rs⟩ := g
    simp only at hW p0 p1 q0 q1 HCh ⊢
    go_enter Try.func10, Try.ntmps10
    go_wp2_with fail
    refine (HCh.out).mono ?_
    rintro e w3 ⟨rfl, hb⟩
    have B3 := Lib.hid (B2.out.trans (hb.mono B2.out.size))
    clear hb
    go_wp2_with fail
    go_ret
    exact ⟨by rw [HE.out]; rfl, B3.out⟩
end Go.Proofs.Ytibcjkpfpiamkab
namespace Go.Proofs.Ytibcjkpfpiamkab
open Go.RowKit
set_option linter.unusedVariables false

theorem andn_inn {n S : Nat} {L : List Int} (hs : setL n L = true) (hn : n ≤ 32) (hS : S < 4294967296) : (bits .andNot .i64 ((gatN L : Nat) : Int) (S : Int) != 0) = !inn S L := by
  have hg : gatN L < 4294967296 := bit32 _
  rw [i64_andNot_nat _ _ (by omega) (by omega), ← li_inn hs hn hS]
  have key : dif (gatN L) S = 0 ↔ liB (gatN L) S = true := by
    rw [li_sub hg hS]
    constructor
    · intro h j hj
      have h1 : (dif (gatN L) S).testBit j = false := by rw [h]; exact Nat.zero_testBit j
      rw [dif_test (by omega) (by omega), hj, Bool.true_and] at h1
      simpa using h1
    · intro h
      apply Nat.eq_of_testBit_eq
      intro j
      rw [Nat.zero_testBit, dif_test (by omega) (by omega)]
      cases hj : (gatN L).testBit j
      · rfl
      · rw [h j hj]; rfl
  cases hl : liB (gatN L) S
  · have : dif (gatN L) S ≠ 0 := fun h => by rw [key.1 h] at hl; cases hl
    show _ = true
    rw [bne_iff_ne]
    intro h2
    exact this (by exact_mod_cast h2)
  · rw [key.2 hl]; rfl
theorem and0_hit {n S : Nat} {L : List Int} (hs : setL n L = true) (hn : n ≤ 32) (hS : S < 4294967296) : (bits .and .i64 ((gatN L : Nat) : Int) (S : Int) == 0) = !hit S L := by
  have h := and_hit hs hn hS
  rw [bne] at h
  rw [← h, Bool.not_not]
theorem tr_no {G : Gm} {goal T p : Nat} (hT : T < 2 ^ G.own.length) (hp : T.testBit p = true) (h : ¬ (goal.testBit p = false ∧ fcB G 1 T p = true)) : trB G goal T = false := by
  cases hb : trB G goal T
  · rfl
  · exact absurd ((trB_iff hT).1 hb p hp) h
theorem tr_mem {n : Nat} {T : List Int} (hT : setL n T = true) (hn : n ≤ 32) {d : Int} (hd : d ∈ T) : (gatN T).testBit d.toNat = true := by
  have h1 := set_mem hT hd
  rw [gat_at hT hn, memB_iff, show ((d.toNat : Nat) : Int) = d by omega]
  exact hd
theorem tr_goal {G : Gm} {L T : List Int} (h16 : G.own.length ≤ 16) (hT : setL G.own.length T = true) (h : hit (gatN L) T = true) : trB G (gatN L) (gatN T) = false := by
  obtain ⟨d, hd, hb⟩ := List.any_eq_true.1 h
  refine tr_no (p := d.toNat) (gat_lt hT (by omega)) (tr_mem hT (by omega) hd) fun hx => ?_
  rw [hx.1] at hb
  cases hb
theorem tr_one {G : Gm} {goal : Nat} {T : List Int} (h16 : G.own.length ≤ 16) (hT : setL G.own.length T = true) {k p : Nat} (hk : T[k]? = some (p : Int)) (h : fcB G 1 (gatN T) p = false) : trB G goal (gatN T) = false := by
  have hm := tr_mem hT (by omega) (List.mem_of_getElem? hk)
  rw [Int.toNat_natCast] at hm
  refine tr_no (p := p) (gat_lt hT (by omega)) hm fun hx => ?_
  rw [hx.2] at h
  cases h
theorem tr_all {G : Gm} {L T : List Int} (h16 : G.own.length ≤ 16) (hT : setL G.own.length T = true) (hg : hit (gatN L) T = false) (h : ∀ (j : Nat) d, j < T.length → T[j]? = some d → fcB G 1 (gatN T) d.toNat = true) : trB G (gatN L) (gatN T) = true := by
  rw [trB_iff (gat_lt hT (by omega))]
  intro p hp
  rw [gat_at hT (by omega), memB_iff] at hp
  obtain ⟨j, hj, he⟩ := List.getElem_of_mem hp
  have h1 := h j p hj (by rw [← he]; exact List.getElem?_eq_getElem hj)
  rw [Int.toNat_natCast] at h1
  refine ⟨?_, h1⟩
  unfold hit at hg
  rw [List.any_eq_false] at hg
  have := hg _ hp
  rw [Int.toNat_natCast] at this
  simpa using this
theorem ct_set {G : Gm} {L T : List Int} (h : askE G L = 0) (hs : setL G.own.length T = false) : ctE G L T = 1 := by
  unfold ctE
  rw [if_pos h, if_neg (by rw [hs]; decide)]
theorem ct_val {G : Gm} {L T : List Int} (h : askE G L = 0) (hs : setL G.own.length T = true) : ctE G L T = (if trB G (gatN L) (gatN T) = true then 0 else 7) := by
  unfold ctE
  rw [if_pos h, if_pos hs]
theorem ct_no {G : Gm} {L T : List Int} (h : ¬ askE G L = 0) : ctE G L T = askE G L := if_neg h
end Go.Proofs.Ytibcjkpfpiamkab
namespace Go.Proofs.Ytibcjkpfpiamkab
open Go.RowKit
set_option linter.unusedVariables false

theorem trap_free {G : Gm} {L T : List Int} (h : ctE G L T = 0) {k : Nat} {d : Int} (hd : T[k]? = some d) : decide (d ∈ freL G L) = true := by
  obtain ⟨h1, h2, h3⟩ := ctE_zero h
  obtain ⟨hG, hs⟩ := askE_zero h1
  have H := gE_zero hG
  have h16 := H.le
  rw [decide_eq_true_eq]
  unfold freL
  rw [if_pos h1]
  have hm := List.mem_of_getElem? hd
  have hr := set_mem h2 hm
  have hT := tr_mem h2 (by omega) hm
  have hl := trap_lv H (gat_lt h2 (by omega)) h3 G.own.length d.toNat hT
  refine List.mem_map.2 ⟨d.toNat, ?_, by omega⟩
  rw [List.mem_filter]
  refine ⟨List.mem_range.2 (by omega), ?_⟩
  rw [free_at (by omega), Bool.not_eq_true']
  exact hl
end Go.Proofs.Ytibcjkpfpiamkab
namespace Go.Proofs.Ytibcjkpfpiamkab
open Go.RowKit
set_option linter.unusedVariables false

theorem free_set (G : Gm) (goal : Nat) (h16 : G.own.length ≤ 16) : setL G.own.length (lst (freeN G goal)) = true := by
  unfold lst
  rw [listK_high (fun j hj => high_bits (free_lt G goal) hj) h16]
  exact setL_listK _ _
theorem gat_lst {x n : Nat} (hx : x < 2 ^ n) (hn : n ≤ 16) : gatN (lst x) = x := by
  apply Nat.eq_of_testBit_eq
  intro j
  unfold gatN
  rcases Nat.lt_or_ge j 16 with h | h
  · rw [bitK_test _ _ _ (by omega)]
    unfold lst
    exact memB_listK _ _ _ h
  · have h2 : x.testBit j = false := high_bits (Nat.lt_of_lt_of_le hx (Nat.pow_le_pow_right (by omega) hn)) h
    rw [h2]
    rcases Nat.lt_or_ge j 32 with h3 | h3
    · rw [bitK_test _ _ _ h3]
      cases hb : memB (lst x) j
      · rfl
      · obtain ⟨i, hi, hi2, _⟩ := listK_mem (memB_iff.1 hb)
        omega
    · exact high_bits (bitK_lt _ 32) h3
theorem cert_free {G : Gm} {L : List Int} (h : askE G L = 0) : ctE G L (freL G L) = 0 := by
  obtain ⟨hG, hs⟩ := askE_zero h
  have H := gE_zero hG
  have h16 := H.le
  have hg : gatN L < 2 ^ G.own.length := gat_lt hs (by omega)
  unfold freL
  rw [if_pos h]
  rw [ct_val h (free_set G _ h16), gat_lst (free_lt G _) h16, free_trap H hg]
  rfl
theorem cert_rank {G : Gm} {L : List Int} (h : askE G L = 0) : crE G L (ranL G L) = 0 := by
  obtain ⟨hG, hs⟩ := askE_zero h
  have h16 := (gE_zero hG).le
  unfold ranL
  rw [if_pos h]
  exact rk_accepted h (gat_lt hs (by omega)) h16
end Go.Proofs.Ytibcjkpfpiamkab
namespace Go.Proofs.Ytibcjkpfpiamkab
open Go.RowKit
set_option linter.unusedVariables false

def itr (f : Nat → Nat) (S : Nat) : Nat → Nat
  | 0 => S
  | k + 1 => f (itr f S k)
def Mono (f : Nat → Nat) : Prop := ∀ X Y, sub X Y → sub (f X) (f Y)
section
variable {f : Nat → Nat} {S n : Nat}
theorem itr_down (hm : Mono f) (hs : sub (f S) S) : ∀ k, sub (itr f S (k + 1)) (itr f S k)
  | 0 => hs
  | k + 1 => hm _ _ (itr_down hm hs k)
theorem itr_in (hm : Mono f) (hs : sub (f S) S) : ∀ k, sub (itr f S k) S
  | 0 => sub_refl _
  | k + 1 => (itr_down hm hs k).trans (itr_in hm hs k)
theorem sub_lt {X Y n : Nat} (h : sub X Y) (hY : Y < 2 ^ n) : X < 2 ^ n := by
  apply Nat.lt_pow_two_of_testBit
  intro j hj
  cases hb : X.testBit j
  · rfl
  · have := bit_in hY (h j hb)
    omega
theorem itr_lt (hm : Mono f) (hs : sub (f S) S) (hS : S < 2 ^ n) (k : Nat) : itr f S k < 2 ^ n := sub_lt (itr_in hm hs k) hS
theorem itr_same {k : Nat} (h : f (itr f S k) = itr f S k) : ∀ j, itr f S (k + j) = itr f S k
  | 0 => rfl
  | j + 1 => by
    show f (itr f S (k + j)) = _
    rw [itr_same h j]
    exact h
theorem itr_cnt (hm : Mono f) (hs : sub (f S) S) (hS : S < 2 ^ n) : ∀ k, (∀ j, j < k → f (itr f S j) ≠ itr f S j) → cntK (itr f S k).testBit n + k ≤ n
  | 0, _ => by have := cntK_le (itr f S 0).testBit n; omega
  | k + 1, h => by
    have ih := itr_cnt hm hs hS k fun j hj => h j (by omega)
    have := sub_less (itr_lt hm hs hS k) (itr_down hm hs k) (h k (by omega))
    omega
theorem itr_end (hm : Mono f) (hs : sub (f S) S) (hS : S < 2 ^ n) {k : Nat} (h : f (itr f S k) = itr f S k) : itr f S k = itr f S n := by
  have hex : ∃ i, i ≤ n ∧ f (itr f S i) = itr f S i := by
    apply Classical.byContradiction
    intro hno
    have := itr_cnt hm hs hS (n + 1) fun j hj he => hno ⟨j, by omega, he⟩
    omega
  obtain ⟨i, hi, hf⟩ := hex
  have e2 := itr_same hf (n - i)
  rw [show i + (n - i) = n by omega] at e2
  rw [e2]
  rcases Nat.lt_or_ge k i with h1 | h1
  · have := itr_same h (i - k)
    rw [show k + (i - k) = i by omega] at this
    exact this.symm
  · have := itr_same hf (k - i)
    rw [show i + (k - i) = k by omega] at this
    exact this
theorem itr_fix (hm : Mono f) (hs : sub (f S) S) (hS : S < 2 ^ n) : f (itr f S n) = itr f S n := by
  have hex : ∃ i, i ≤ n ∧ f (itr f S i) = itr f S i := by
    apply Classical.byContradiction
    intro hno
    have := itr_cnt hm hs hS (n + 1) fun j hj he => hno ⟨j, by omega, he⟩
    omega
  obtain ⟨i, hi, hf⟩ := hex
  have e2 := itr_same hf (n - i)
  rw [show i + (n - i) = n by omega] at e2
  rw [e2]
  exact hf
/-- What keeps lies in where it ends. -/
theorem itr_great (hm : Mono f) {X : Nat} (hX : sub X (f X)) (hS : sub X S) : ∀ k, sub X (itr f S k)
  | 0 => hS
  | k + 1 => hX.trans (hm _ _ (itr_great hm hX hS k))
end

/-! ### Keeping to a set, visiting again and again -/
def kpF (G : Gm) (X : Nat) : Nat := X &&& fcN G 0 X
def kpN (G : Gm) (S : Nat) : Nat := itr (kpF G) S G.own.length
theorem and_sub_left (X Y : Nat) : sub (X &&& Y) X := fun j hj => by
  rw [Nat.testBit_and, Bool.and_eq_true] at hj
  exact hj.1
theorem and_sub_right (X Y : Nat) : sub (X &&& Y) Y := fun j hj => by
  rw [Nat.testBit_and, Bool.and_eq_true] at hj
  exact hj.2
theorem and_sub {a b c d : Nat} (h : sub a c) (g : sub b d) : sub (a &&& b) (c &&& d) := fun j hj => by
  rw [Nat.testBit_and, Bool.and_eq_true] at hj ⊢
  exact ⟨h j hj.1, g j hj.2⟩
theorem kp_mono (G : Gm) : Mono (kpF G) := fun X Y h => and_sub h (fcN_mono h)
theorem kp_sub (G : Gm) (S : Nat) : sub (kpF G S) S := and_sub_left _ _
theorem kp_in (G : Gm) (S : Nat) : sub (kpN G S) S := itr_in (kp_mono G) (kp_sub G S) _
theorem kp_lt {G : Gm} {S : Nat} (hS : S < 2 ^ G.own.length) : kpN G S < 2 ^ G.own.length := itr_lt (kp_mono G) (kp_sub G S) hS _
theorem kp_fix {G : Gm} {S : Nat} (hS : S < 2 ^ G.own.length) : kpF G (kpN G S) = kpN G S := itr_fix (kp_mono G) (kp_sub G S) hS
theorem kp_again {G : Gm} {S : Nat} (hS : S < 2 ^ G.own.length) : kpN G (kpN G S) = kpN G S := by
  have h := kp_fix hS
  exact (itr_end (f := kpF G) (S := kpN G S) (n := G.own.length) (k := 0) (kp_mono G) (kp_sub G _) (kp_lt hS) h).symm
theorem lv_goal {G : Gm} {a b : Nat} (h : sub a b) : ∀ k, sub (lv G a k) (lv G b k)
  | 0 => sub_refl _
  | k + 1 => or_sub h (fcN_mono (lv_goal h k))
def agF (G : Gm) (goal X : Nat) : Nat := wonN G (goal &&& fcN G 0 X)
def agN (G : Gm) (goal : Nat) : Nat := itr (agF G goal) (2 ^ G.own.length - 1) G.own.length
theorem ag_mono (G : Gm) (goal : Nat) : Mono (agF G goal) := fun X Y h => lv_goal (and_sub (sub_refl _) (fcN_mono h)) _
theorem goal_and {G : Gm} {goal : Nat} (hg : goal < 2 ^ G.own.length) (X : Nat) : goal &&& fcN G 0 X < 2 ^ G.own.length := Nat.lt_of_le_of_lt Nat.and_le_left hg
theorem ag_lt {G : Gm} {goal : Nat} (hg : goal < 2 ^ G.own.length) (X : Nat) : agF G goal X < 2 ^ G.own.length := lv_lt (goal_and hg X) _
theorem all_lt (n : Nat) : 2 ^ n - 1 < 2 ^ n := by have := Nat.two_pow_pos n; omega
theorem ag_sub {G : Gm} {goal : Nat} (hg : goal < 2 ^ G.own.length) : sub (agF G goal (2 ^ G.own.length - 1)) (2 ^ G.own.length - 1) := fun j hj => by
  have := bit_in (ag_lt hg _) hj
  rw [Nat.testBit_two_pow_sub_one]
  simpa using this
theorem ag_fix {G : Gm} {goal : Nat} (hg : goal < 2 ^ G.own.length) : agF G goal (agN G goal) = agN G goal := itr_fix (ag_mono G goal) (ag_sub hg) (all_lt _)
theorem ag_lt2 {G : Gm} {goal : Nat} (hg : goal < 2 ^ G.own.length) : agN G goal < 2 ^ G.own.length := itr_lt (ag_mono G goal) (ag_sub hg) (all_lt _) _
/-- What is visited again and again is won. -/
theorem ag_won {G : Gm} {goal : Nat} (hg : goal < 2 ^ G.own.length) : sub (agN G goal) (wonN G goal) := by
  rw [← ag_fix hg]
  exact lv_goal (and_sub_left _ _) _
end Go.Proofs.Ytibcjkpfpiamkab
namespace Go.Proofs.Ytibcjkpfpiamkab
open Go.RowKit
set_option linter.unusedVariables false

theorem sbl {P : Program} {f : FuncId} {args : Array Value} {w : World} {v : Value} (h : Calls P f args w fun e w' => e = .returned v ∧ w = w') : Calls P f args w fun e w' => e = .returned v ∧ Below w.heap.size w w' := h.mono fun _ _ ⟨he, hw⟩ => ⟨he, by subst hw; exact Below.refl _ _⟩
theorem p16 {n : Nat} (h : n ≤ 16) : 2 ^ n ≤ 65536 := show 2 ^ n ≤ 2 ^ 16 from Nat.pow_le_pow_right (by omega) h
set_option maxRecDepth 4000 in
set_option maxHeartbeats 800000 in
theorem keep1_any (g : Gv) (b X : Nat) (w : World) (hr : RdG w w.heap.size g) (hf : Gfit g) (hE : gE g.G = 0) (q0 : w.cell? ⟨b, 0, none⟩ = some (.slice g.A0 g.own.length g.c0)) (q1 : w.cell? ⟨b, 1, none⟩ = some (.slice g.A1 g.rs.length g.c1)) (hX : X < 65536) :
    Calls Try.prog 41 #[.int .u32 X, .pointer (some ⟨b, 0, none⟩)] w fun e w' => e = .returned (.int .u32 (kpF g.G X : Nat)) ∧ Below w.heap.size w w' := by
  have RG := Lib.hid hr
  have HF := Lib.hid (fun w h => forced_any g 0 X w h hf hE (by omega))
  have hx : fcN g.G 0 X < 4294967296 := Nat.lt_of_lt_of_le (fcN_lt g.G 0 X) (Nat.le_trans (p16 (gE_zero hE).le) (by omega))
  have hand : bits .and .u32 (X : Int) ((fcN g.G 0 X : Nat) : Int) = ((kpF g.G X : Nat) : Int) := u32_and_nat _ _ (by omega) hx
  clear hr hf hE
  unfold Gv.v at HF
  generalize kpF g.G X = K at *
  generalize fcN g.G 0 X = Y at *
  obtain ⟨A0, c0, own, A1, c1, rs⟩ := g
  simp only at q0 q1 HF
  go_enter Try.func41, Try.ntmps41
  go_wp2_with fail
  refine (HF.out w RG.out).mono ?_
  rintro e w1 ⟨rfl, hb⟩
  have B1 := Lib.hid hb
  clear hb
  go_wp2_with fail
  go_ret
  exact ⟨by first | rfl | rw [hand], B1.out⟩
set_option maxRecDepth 4000 in
set_option maxHeartbeats 800000 in
theorem again1_any (g : Gv) (b bv X goal : Nat) (w : World) (hr : RdG w w.heap.size g) (hf : Gfit g) (hE : gE g.G = 0) (q0 : w.cell? ⟨b, 0, none⟩ = some (.slice g.A0 g.own.length g.c0)) (q1 : w.cell? ⟨b, 1, none⟩ = some (.slice g.A1 g.rs.length g.c1)) (qv : w.cell? ⟨bv, 0, none⟩ = some (.int .u32 goal)) (hg : goal < 2 ^ g.own.length) (hX : X < 65536) :
    Calls Try.prog 40 #[.int .u32 X, .pointer (some ⟨b, 0, none⟩), .pointer (some ⟨bv, 0, none⟩)] w fun e w' => e = .returned (.int .u32 (agF g.G goal X : Nat)) ∧ Below w.heap.size w w' := by
  have RG := Lib.hid hr
  have h16 : g.own.length ≤ 16 := (gE_zero hE).le
  have HF := Lib.hid (fun w h => forced_any g 0 X w h hf hE (by omega))
  have HW := Lib.hid (fun w h => wins_any g (goal &&& fcN g.G 0 X) w h hf hE (goal_and hg X))
  have hx : fcN g.G 0 X < 4294967296 := Nat.lt_of_lt_of_le (fcN_lt g.G 0 X) (Nat.le_trans (p16 h16) (by omega))
  have hand : bits .and .u32 (goal : Int) ((fcN g.G 0 X : Nat) : Int) = ((goal &&& fcN g.G 0 X : Nat) : Int) := u32_and_nat _ _ (by have := p16 h16; omega) hx
  have HE := Lib.hid (show wonN g.G (goal &&& fcN g.G 0 X) = agF g.G goal X from rfl)
  clear hr hf hE
  unfold Gv.v at HF HW
  generalize agF g.G goal X = K at *
  generalize wonN g.G (goal &&& fcN g.G 0 X) = V at *
  generalize goal &&& fcN g.G 0 X = Z at *
  generalize fcN g.G 0 X = Y at *
  obtain ⟨A0, c0, own, A1, c1, rs⟩ := g
  simp only at q0 q1 HF HW
  have g0 := fun d os => cell_regrown q0 d os
  have g1 := fun d os => cell_regrown q1 d os
  have gv := fun d os => cell_regrown qv d os
  go_enter Try.func40, Try.ntmps40
  go_wp2_with fail
  refine wp_region_quiet_below (by kernel_rfl) (by kernel_rfl) ?_
  repeat (go_big_quiet_step (first | (with_reducible exact Calls.regrown_of (HF.out _ (RG.out.up (below_regrown _ _ _)))) | (with_reducible exact Calls.regrown_of (HW.out _ (RG.out.up (below_regrown _ _ _))))))
  refine wpQuiet_nil ?_
  intro _ hw'
  obtain ⟨⟨dq, osq⟩, hw''⟩ := hw'
  subst hw''
  go_wp2_with fail
  go_ret
  exact ⟨by rw [HE.out]; rfl, below_regrown w dq osq⟩
set_option maxRecDepth 4000 in
set_option maxHeartbeats 800000 in
theorem shrinkK_any (g : Gv) (b : Nat) (S : Nat) (w : World) (hr : RdG w w.heap.size g) (hf : Gfit g) (hE : gE g.G = 0) (z0 : w.cell? ⟨b, 0, none⟩ = some (.slice g.A0 g.own.length g.c0)) (z1 : w.cell? ⟨b, 1, none⟩ = some (.slice g.A1 g.rs.length g.c1)) (lt_b : b < w.heap.size) (hm : Mono (kpF g.G)) (hs : sub (kpF g.G S) S) (hS : S < 2 ^ g.own.length) :
    Calls Try.prog 39 #[.int .u32 S, .func (.func 41) #[] #[.pointer (some ⟨b, 0, none⟩)]] w fun e w' => e = .returned (.int .u32 (itr (kpF g.G) S g.own.length : Nat)) ∧ Below w.heap.size w w' := by
  have RG := Lib.hid hr
  have h16 : g.own.length ≤ 16 := (gE_zero hE).le
  have hp := p16 h16
  have HLt := Lib.hid (fun k => itr_lt (n := g.own.length) hm hs hS k)
  have HEn := Lib.hid (fun k h => itr_end (n := g.own.length) (k := k) hm hs hS h)
  have HLs := Lib.hid (fun k h => sub_less (n := g.own.length) (itr_lt hm hs hS k) (itr_down hm hs k) h)
  have HC := Lib.hid (fun X w h y0 y1 hX => keep1_any g b X w h hf hE y0 y1 hX)
  have HN := Lib.hid (fun k => (show (kpF g.G) (itr (kpF g.G) S k) = itr (kpF g.G) S (k + 1) from rfl))
  have HCn := Lib.hid (fun X => cntK_le (Nat.testBit X) g.own.length)
  clear hr hf hE
  generalize kpF g.G = F at *
  go_enter Try.func39, Try.ntmps39
  go_wp2_with fail
  go_loopw [0] (fun v wr => ∃ k : Nat, v = .int .u32 (itr F S k : Nat) ∧ Below w.heap.size w wr) (fun v _ => cntK (intOf v).toNat.testBit g.own.length)
  case atStart => exact ⟨0, rfl, Below.refl _ _⟩
  case round =>
    obtain ⟨k, rfl, hb⟩ := hrel
    have BW := Lib.hid hb
    have RG1 := Lib.hid (RG.out.up hb)
    have y0 := cell_keep z0 hb lt_b
    have y1 := cell_keep z1 hb lt_b
    have hlt := HLt.out k
    have HQ := Lib.hid (HC.out (itr F S k) wr RG1.out y0 y1 (by omega))
    have HNk := Lib.hid (HN.out k)
    rw [HN.out k] at HQ
    have HLk := Lib.hid (HLs.out k)
    have HEk := Lib.hid (HEn.out k)
    clear hb hlt
    by_cases he : itr F S (k + 1) = itr F S k
    · have e1 : (((itr F S (k + 1) : Nat) : Int) == ((itr F S k : Nat) : Int)) = true := by rw [he]; simp
      have HE := Lib.hid (HEk.out (by rw [HNk.out]; exact he))
      have e2 : (itr F S (k + 1) == itr F S k) = true := by rw [he]; simp
      clear he
      generalize itr F S (k + 1) = I1 at *
      generalize itr F S k = I0 at *
      go_wp2_with (go_at_call 41; refine HQ.out.mono ?_; rintro e w2 ⟨rfl, hb⟩; have B2 := Lib.hid (BW.out.trans (hb.mono BW.out.size)); clear hb)
      go_ret
      exact ⟨by rw [← HE.out]; rfl, B2.out⟩
    · have e1 : (((itr F S (k + 1) : Nat) : Int) == ((itr F S k : Nat) : Int)) = false := by rw [beq_eq_false_iff_ne]; intro h; exact he (by exact_mod_cast h)
      have e2 : (itr F S (k + 1) == itr F S k) = false := by rw [beq_eq_false_iff_ne]; exact he
      have HM := Lib.hid (HLk.out he)
      clear he
      go_wp2_with (go_at_call 41; refine HQ.out.mono ?_; rintro e w2 ⟨rfl, hb⟩; have B2 := Lib.hid (BW.out.trans (hb.mono BW.out.size)); clear hb)
      go_roundw
      case rel => exact ⟨k + 1, rfl, B2.out⟩
      case measure => simp [intOf]; exact HM.out
set_option maxRecDepth 4000 in
set_option maxHeartbeats 800000 in
theorem shrinkA_any (g : Gv) (b bv : Nat) (S goal : Nat) (w : World) (hr : RdG w w.heap.size g) (hf : Gfit g) (hE : gE g.G = 0) (z0 : w.cell? ⟨b, 0, none⟩ = some (.slice g.A0 g.own.length g.c0)) (z1 : w.cell? ⟨b, 1, none⟩ = some (.slice g.A1 g.rs.length g.c1)) (z2 : w.cell? ⟨bv, 0, none⟩ = some (.int .u32 (goal : Int))) (lt_b : b < w.heap.size) (lt_bv : bv < w.heap.size) (hg : goal < 2 ^ g.own.length) (hm : Mono (agF g.G goal)) (hs : sub (agF g.G goal S) S) (hS : S < 2 ^ g.own.length) :
    Calls Try.prog 39 #[.int .u32 S, .func (.func 40) #[] #[.pointer (some ⟨b, 0, none⟩), .pointer (some ⟨bv, 0, none⟩)]] w fun e w' => e = .returned (.int .u32 (itr (agF g.G goal) S g.own.length : Nat)) ∧ Below w.heap.size w w' := by
  have RG := Lib.hid hr
  have h16 : g.own.length ≤ 16 := (gE_zero hE).le
  have hp := p16 h16
  have HLt := Lib.hid (fun k => itr_lt (n := g.own.length) hm hs hS k)
  have HEn := Lib.hid (fun k h => itr_end (n := g.own.length) (k := k) hm hs hS h)
  have HLs := Lib.hid (fun k h => sub_less (n := g.own.length) (itr_lt hm hs hS k) (itr_down hm hs k) h)
  have HC := Lib.hid (fun X w h y0 y1 y2 hX => again1_any g b bv X goal w h hf hE y0 y1 y2 hg hX)
  have HN := Lib.hid (fun k => (show (agF g.G goal) (itr (agF g.G goal) S k) = itr (agF g.G goal) S (k + 1) from rfl))
  have HCn := Lib.hid (fun X => cntK_le (Nat.testBit X) g.own.length)
  clear hr hf hE
  generalize agF g.G goal = F at *
  go_enter Try.func39, Try.ntmps39
  go_wp2_with fail
  go_loopw [0] (fun v wr => ∃ k : Nat, v = .int .u32 (itr F S k : Nat) ∧ Below w.heap.size w wr) (fun v _ => cntK (intOf v).toNat.testBit g.own.length)
  case atStart => exact ⟨0, rfl, Below.refl _ _⟩
  case round =>
    obtain ⟨k, rfl, hb⟩ := hrel
    have BW := Lib.hid hb
    have RG1 := Lib.hid (RG.out.up hb)
    have y0 := cell_keep z0 hb lt_b
    have y1 := cell_keep z1 hb lt_b
    have y2 := cell_keep z2 hb lt_bv
    have hlt := HLt.out k
    have HQ := Lib.hid (HC.out (itr F S k) wr RG1.out y0 y1 y2 (by omega))
    have HNk := Lib.hid (HN.out k)
    rw [HN.out k] at HQ
    have HLk := Lib.hid (HLs.out k)
    have HEk := Lib.hid (HEn.out k)
    clear hb hlt
    by_cases he : itr F S (k + 1) = itr F S k
    · have e1 : (((itr F S (k + 1) : Nat) : Int) == ((itr F S k : Nat) : Int)) = true := by rw [he]; simp
      have HE := Lib.hid (HEk.out (by rw [HNk.out]; exact he))
      have e2 : (itr F S (k + 1) == itr F S k) = true := by rw [he]; simp
      clear he
      generalize itr F S (k + 1) = I1 at *
      generalize itr F S k = I0 at *
      go_wp2_with (go_at_call 40; refine HQ.out.mono ?_; rintro e w2 ⟨rfl, hb⟩; have B2 := Lib.hid (BW.out.trans (hb.mono BW.out.size)); clear hb)
      go_ret
      exact ⟨by rw [← HE.out]; rfl, B2.out⟩
    · have e1 : (((itr F S (k + 1) : Nat) : Int) == ((itr F S k : Nat) : Int)) = false := by rw [beq_eq_false_iff_ne]; intro h; exact he (by exact_mod_cast h)
      have e2 : (itr F S (k + 1) == itr F S k) = false := by rw [beq_eq_false_iff_ne]; exact he
      have HM := Lib.hid (HLk.out he)
      clear he
      go_wp2_with (go_at_call 40; refine HQ.out.mono ?_; rintro e w2 ⟨rfl, hb⟩; have B2 := Lib.hid (BW.out.trans (hb.mono BW.out.size)); clear hb)
      go_roundw
      case rel => exact ⟨k + 1, rfl, B2.out⟩
      case measure => simp [intOf]; exact HM.out
end Go.Proofs.Ytibcjkpfpiamkab
namespace Go.Proofs.Ytibcjkpfpiamkab
open Go.RowKit
set_option linter.unusedVariables false

def kepL (G : Gm) (L : List Int) : List Int := if askE G L = 0 then lst (kpN G (gatN L)) else []
def agaL (G : Gm) (L : List Int) : List Int := if askE G L = 0 then lst (agN G (gatN L)) else []
set_option maxRecDepth 4000 in
set_option maxHeartbeats 1600000 in
theorem Keeps_any (g : Gv) (A : Option Addr) (c : Nat) (L : List Int) (w : World) (hr : RdG w w.heap.size g) (hf : Gfit g) (hq : Rd w w.heap.size A (ints L)) (hn : L.length ≤ 9223372036854775807) :
    Calls Try.prog 17 #[g.v, .slice A L.length c] w (MadeIE w (kepL g.G L) (askE g.G L)) := by
  obtain ⟨W, hW, p0, p1, hz, hb, hr1⟩ := box_game w g 25 hr
  have R1 := Lib.hid (hq.up hb)
  have B0 := Lib.hid hb
  obtain ⟨W2, hW2, hb2, HC⟩ := ask_one g A c L W hr1 hf R1.out hn
  have B2 := Lib.hid (hb.trans (hb2.mono hb.size))
  have HCh := Lib.hid HC
  have RG2 := Lib.hid (hr1.up hb2)
  have R2 := Lib.hid (R1.out.up hb2)
  have q0 := cell_keep p0 hb2 hz
  have q1 := cell_keep p1 hb2 hz
  have hz2 : w.heap.size < W2.heap.size := Nat.lt_of_lt_of_le hz hb2.size
  unfold kepL
  by_cases hE : askE g.G L = 0
  · rw [if_pos hE, hE]
    rw [hE] at HCh
    obtain ⟨hG0, hs⟩ := askE_zero hE
    have h16 : g.G.own.length ≤ 16 := (gE_zero hG0).le
    have hg : gatN L < 2 ^ g.G.own.length := gat_lt hs (by omega)
    have hp := p16 h16
    have HG := Lib.hid (fun w h => gather_any A c L g.own.length w h hn hs (show ((g.own.length : Nat) : Int) ≤ 31 by have e : g.G.own = g.own := rfl; rw [e] at h16; omega))
    have HS := Lib.hid (fun b w h q0 q1 hb => shrinkK_any g b (gatN L) w h hf hG0 q0 q1 hb (kp_mono g.G) (kp_sub g.G _) hg)
    have hx : kpN g.G (gatN L) < 4294967296 := Nat.lt_of_lt_of_le (kp_lt hg) (by omega)
    have HL := Lib.hid (fun w => list_any (kpN g.G (gatN L)) w hx)
    have HKN := Lib.hid (show itr (kpF g.G) (gatN L) g.own.length = kpN g.G (gatN L) from rfl)
    rw [HKN.out] at HS
    clear hx
    clear hr hf hq hn hb hr1 hb2 HC hE hG0 hs h16 hg hp
    unfold Gv.v at HCh  ⊢
    generalize kpN g.G (gatN L) = K at *
    generalize g.G = G at *
    obtain ⟨A0, c0, own, A1, c1, rs⟩ := g
    simp only at hW p0 p1 q0 q1 HCh  HS ⊢
    go_enter Try.func17, Try.ntmps17
    go_wp2_with fail
    refine (HCh.out).mono ?_
    rintro e w3 ⟨rfl, hb⟩
    have B3 := Lib.hid (B2.out.trans (hb.mono B2.out.size))
    have RG3 := Lib.hid (RG2.out.up hb)
    have R3 := Lib.hid (R2.out.up hb)
    have r0 := cell_keep q0 hb hz2
    have r1 := cell_keep q1 hb hz2
    have hz3 : w.heap.size < w3.heap.size := Nat.lt_of_lt_of_le hz2 hb.size
    clear hb q0 q1 p0 p1 hW hW2
    go_wp2_with fail
    refine (HG.out w3 R3.out).mono ?_
    rintro e w' ⟨rfl, rfl⟩
    go_wp2_with fail
    refine (HS.out w.heap.size w3 RG3.out r0 r1 hz3).mono ?_
    rintro e w4 ⟨rfl, hb⟩
    have B4 := Lib.hid (B3.out.trans (hb.mono B3.out.size))
    clear hb
    go_wp2_with fail
    refine (HL.out w4).mono ?_
    rintro e w6 ⟨A6, c6, rfl, hc6, hf6, hr6, hb6⟩
    have F6 := Lib.hid (hf6.le B4.out.size)
    have R6 := Lib.hid hr6
    have B6 := Lib.hid (B4.out.trans (hb6.mono B4.out.size))
    clear hf6 hr6 hb6
    go_wp2_with fail
    go_ret2
    exact ⟨A6, c6, rfl, hc6, F6.out, R6.out, B6.out⟩
  · rw [if_neg hE]
    generalize askE g.G L = E at *
    have hb1 : (E == 0) = false := by simpa using hE
    have hb2' : (E != 0) = true := by simpa using hE
    clear hr hf hq hn hb hr1 hb2 HC hE
    unfold Gv.v at HCh ⊢
    generalize g.G = G at *
    obtain ⟨A0, c0, own, A1, c1, rs⟩ := g
    simp only at hW p0 p1 q0 q1 HCh ⊢
    go_enter Try.func17, Try.ntmps17
    go_wp2_with fail
    refine (HCh.out).mono ?_
    rintro e w3 ⟨rfl, hb⟩
    have B3 := Lib.hid (B2.out.trans (hb.mono B2.out.size))
    clear hb
    go_wp2_with fail
    go_ret2
    exact ⟨none, 0, rfl, by decide, fresh_nil w, .inl rfl, B3.out⟩
set_option maxRecDepth 4000 in
set_option maxHeartbeats 1600000 in
theorem Again_any (g : Gv) (A : Option Addr) (c : Nat) (L : List Int) (w : World) (hr : RdG w w.heap.size g) (hf : Gfit g) (hq : Rd w w.heap.size A (ints L)) (hn : L.length ≤ 9223372036854775807) :
    Calls Try.prog 16 #[g.v, .slice A L.length c] w (MadeIE w (agaL g.G L) (askE g.G L)) := by
  obtain ⟨W, hW, p0, p1, hz, hb, hr1⟩ := box_game w g 25 hr
  have R1 := Lib.hid (hq.up hb)
  have B0 := Lib.hid hb
  obtain ⟨W2, hW2, hb2, HC⟩ := ask_one g A c L W hr1 hf R1.out hn
  have B2 := Lib.hid (hb.trans (hb2.mono hb.size))
  have HCh := Lib.hid HC
  have RG2 := Lib.hid (hr1.up hb2)
  have R2 := Lib.hid (R1.out.up hb2)
  have q0 := cell_keep p0 hb2 hz
  have q1 := cell_keep p1 hb2 hz
  have hz2 : w.heap.size < W2.heap.size := Nat.lt_of_lt_of_le hz hb2.size
  unfold agaL
  by_cases hE : askE g.G L = 0
  · rw [if_pos hE, hE]
    rw [hE] at HCh
    obtain ⟨hG0, hs⟩ := askE_zero hE
    have h16 : g.G.own.length ≤ 16 := (gE_zero hG0).le
    have hg : gatN L < 2 ^ g.G.own.length := gat_lt hs (by omega)
    have hp := p16 h16
    have HG := Lib.hid (fun w h => gather_any A c L g.own.length w h hn hs (show ((g.own.length : Nat) : Int) ≤ 31 by have e : g.G.own = g.own := rfl; rw [e] at h16; omega))
    have HS := Lib.hid (fun b bv w h q0 q1 qv hb hv => shrinkA_any g b bv (2 ^ g.own.length - 1) (gatN L) w h hf hG0 q0 q1 qv hb hv hg (ag_mono g.G _) (ag_sub hg) (all_lt _))
    have HEv := Lib.hid (fun w h => every_any g w h hf hG0)
    have hx : agN g.G (gatN L) < 4294967296 := Nat.lt_of_lt_of_le (ag_lt2 hg) (by omega)
    have HL := Lib.hid (fun w => list_any (agN g.G (gatN L)) w hx)
    have HKN := Lib.hid (show itr (agF g.G (gatN L)) (2 ^ g.own.length - 1) g.own.length = agN g.G (gatN L) from rfl)
    rw [HKN.out] at HS
    clear hx
    clear hr hf hq hn hb hr1 hb2 HC hE hG0 hs h16 hg hp
    unfold Gv.v at HCh HEv ⊢
    generalize agN g.G (gatN L) = K at *
    generalize 2 ^ g.own.length - 1 = V at *
    generalize g.G = G at *
    obtain ⟨A0, c0, own, A1, c1, rs⟩ := g
    simp only at hW p0 p1 q0 q1 HCh HEv HS ⊢
    go_enter Try.func16, Try.ntmps16
    go_wp2_with fail
    refine (HCh.out).mono ?_
    rintro e w3 ⟨rfl, hb⟩
    have B3 := Lib.hid (B2.out.trans (hb.mono B2.out.size))
    have RG3 := Lib.hid (RG2.out.up hb)
    have R3 := Lib.hid (R2.out.up hb)
    have r0 := cell_keep q0 hb hz2
    have r1 := cell_keep q1 hb hz2
    have hz3 : w.heap.size < w3.heap.size := Nat.lt_of_lt_of_le hz2 hb.size
    clear hb q0 q1 p0 p1 hW hW2
    go_wp2_with fail
    refine (HG.out w3 R3.out).mono ?_
    rintro e w' ⟨rfl, rfl⟩
    obtain ⟨w4, hw4, k4, s4, b4⟩ := one_blk w3 #[.int .u32 ((gatN L : Nat) : Int)] 41
    have RG4 := Lib.hid (RG3.out.up b4)
    have t0 := cell_keep r0 b4 hz3
    have t1 := cell_keep r1 b4 hz3
    have hz4 : w.heap.size < w4.heap.size := Nat.lt_of_lt_of_le hz3 b4.size
    have cv : w4.cell? ⟨w3.heap.size, 0, none⟩ = some (.int .u32 ((gatN L : Nat) : Int)) := by rw [blk_cell k4]; rfl
    have B4 := Lib.hid (B3.out.trans (b4.mono B3.out.size))
    clear k4 b4
    go_wp2_with (go_at_call 24; refine (HEv.out w4 RG4.out).mono ?_; rintro e w5 ⟨rfl, hb⟩; have B5 := Lib.hid (B4.out.trans (hb.mono B4.out.size)); have RG5 := Lib.hid (RG4.out.up hb); have u0 := cell_keep t0 hb hz4; have u1 := cell_keep t1 hb hz4; have uv := cell_keep cv hb s4; have hz5 : w.heap.size < w5.heap.size := Nat.lt_of_lt_of_le hz4 hb.size; have hv5 : w3.heap.size < w5.heap.size := Nat.lt_of_lt_of_le s4 hb.size; clear hb)
    refine (HS.out w.heap.size w3.heap.size w5 RG5.out u0 u1 uv hz5 hv5).mono ?_
    rintro e w7 ⟨rfl, hb⟩
    have B7 := Lib.hid (B5.out.trans (hb.mono B5.out.size))
    clear hb
    go_wp2_with fail
    refine (HL.out w7).mono ?_
    rintro e w6 ⟨A6, c6, rfl, hc6, hf6, hr6, hb6⟩
    have F6 := Lib.hid (hf6.le B7.out.size)
    have R6 := Lib.hid hr6
    have B6 := Lib.hid (B7.out.trans (hb6.mono B7.out.size))
    clear hf6 hr6 hb6
    go_wp2_with fail
    go_ret2
    exact ⟨A6, c6, rfl, hc6, F6.out, R6.out, B6.out⟩
  · rw [if_neg hE]
    generalize askE g.G L = E at *
    have hb1 : (E == 0) = false := by simpa using hE
    have hb2' : (E != 0) = true := by simpa using hE
    clear hr hf hq hn hb hr1 hb2 HC hE
    unfold Gv.v at HCh ⊢
    generalize g.G = G at *
    obtain ⟨A0, c0, own, A1, c1, rs⟩ := g
    simp only at hW p0 p1 q0 q1 HCh ⊢
    go_enter Try.func16, Try.ntmps16
    go_wp2_with fail
    refine (HCh.out).mono ?_
    rintro e w3 ⟨rfl, hb⟩
    have B3 := Lib.hid (B2.out.trans (hb.mono B2.out.size))
    clear hb
    go_wp2_with fail
    go_ret2
    exact ⟨none, 0, rfl, by decide, fresh_nil w, .inl rfl, B3.out⟩
end Go.Proofs.Ytibcjkpfpiamkab

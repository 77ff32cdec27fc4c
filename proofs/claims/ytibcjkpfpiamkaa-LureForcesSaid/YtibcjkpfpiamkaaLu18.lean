/-
  Traps: the walks of CheckTrap of both sides. Conditions: the game and the lists can be read.
-/
import Derived.Test.YtibcjkpfpiamkaaLu17
namespace Go.Proofs.Ytibcjkpfpiamkaa
open Go.RowKit
set_option linter.unusedVariables false

theorem ask_two (g : Gv) (A : Option Addr) (c : Nat) (L : List Int) (A2 : Option Addr) (c2 : Nat) (T : List Int) (W : World) (hr : RdG W W.heap.size g) (hf : Gfit g) (hq : Rd W W.heap.size A (ints L)) (hn : L.length ≤ 9223372036854775807) (hq2 : Rd W W.heap.size A2 (ints T)) (hn2 : T.length ≤ 9223372036854775807) :
    ∃ W2, W.alloc (.cells #[.slice A L.length c, .slice A2 T.length c2] 22) = W2 ∧ Below W.heap.size W W2 ∧
      Calls Try.prog 47 #[g.v, .slice (some ⟨W.heap.size, 0, none⟩) 2 2] W2 fun e w' => e = .returned (.int .i64 (chkE g.G [L, T])) ∧ Below W2.heap.size W2 w' := by
  have hb : Below W.heap.size W (W.alloc (.cells #[.slice A L.length c, .slice A2 T.length c2] 22)) := (Below.refl _ _).alloc (Nat.le_refl _) _
  have h1 : Rd (W.alloc (.cells #[.slice A L.length c, .slice A2 T.length c2] 22)) (W.alloc (.cells #[.slice A L.length c, .slice A2 T.length c2] 22)).heap.size (some ⟨W.heap.size, 0, none⟩) [(⟨A, c, L⟩ : Rw).v, (⟨A2, c2, T⟩ : Rw).v] := Rd.lit W [.slice A L.length c, .slice A2 T.length c2] 22
  have hR : RdR (W.alloc (.cells #[.slice A L.length c, .slice A2 T.length c2] 22)) (W.alloc (.cells #[.slice A L.length c, .slice A2 T.length c2] 22)).heap.size (some ⟨W.heap.size, 0, none⟩) [⟨A, c, L⟩, ⟨A2, c2, T⟩] :=
    ⟨h1, fun r hr => by
      simp only [List.mem_cons, List.not_mem_nil, or_false] at hr
      rcases hr with rfl | rfl
      · exact hq.up hb
      · exact hq2.up hb⟩
  have h := check_any g (some ⟨W.heap.size, 0, none⟩) 2 [⟨A, c, L⟩, ⟨A2, c2, T⟩] _ (hr.up hb) hf hR (fun r hr => by
    simp only [List.mem_cons, List.not_mem_nil, or_false] at hr
    rcases hr with rfl | rfl
    · exact hn
    · exact hn2) (by simp)
  rw [show [(⟨A, c, L⟩ : Rw), ⟨A2, c2, T⟩].map (·.l) = [L, T] from rfl] at h
  exact ⟨_, rfl, hb, h⟩
theorem chk_two (G : Gm) (L T : List Int) : chkE G [L, T] = (if askE G L = 0 then (if setL G.own.length T = true then 0 else 1) else askE G L) := by
  unfold chkE askE
  by_cases h0 : gE G = 0
  · rw [if_pos h0, if_pos h0]
    cases hL : setL G.own.length L <;> cases hT : setL G.own.length T <;> simp [hL, hT]
  · rw [if_neg h0, if_neg h0, if_neg h0]
theorem ct_bad {G : Gm} {L T : List Int} (h : ¬ chkE G [L, T] = 0) : ctE G L T = chkE G [L, T] := by
  rw [chk_two] at h ⊢
  unfold ctE
  by_cases h1 : askE G L = 0
  · rw [if_pos h1] at h ⊢
    by_cases h2 : setL G.own.length T = true
    · rw [if_pos h2] at h; exact absurd rfl h
    · rw [if_neg h2] at h ⊢; rw [if_pos h1, if_neg h2]
  · rw [if_neg h1, if_neg h1]
theorem ct_ok {G : Gm} {L T : List Int} (h : chkE G [L, T] = 0) : askE G L = 0 ∧ setL G.own.length T = true ∧ ctE G L T = (if trB G (gatN L) (gatN T) = true then 0 else 7) := by
  rw [chk_two] at h
  by_cases h1 : askE G L = 0
  · rw [if_pos h1] at h
    by_cases h2 : setL G.own.length T = true
    · refine ⟨h1, h2, ?_⟩
      unfold ctE
      rw [if_pos h1, if_pos h2]
    · rw [if_neg h2] at h; cases h
  · rw [if_neg h1] at h; exact absurd h h1
/-- A trap, as the program asks. -/
theorem tr_bits {G : Gm} {L T : List Int} (h16 : G.own.length ≤ 16) (hL : setL G.own.length L = true) (hT : setL G.own.length T = true) : trB G (gatN L) (gatN T) = (!mtB (gatN T) (gatN L) && liB (gatN T) (fcN G 1 (gatN T))) := by
  have hTl : gatN T < 2 ^ G.own.length := gat_lt hT (by omega)
  have hf : fcN G 1 (gatN T) < 4294967296 := by
    have h1 := fcN_lt G 1 (gatN T)
    have h2 : 2 ^ G.own.length ≤ 2 ^ 16 := Nat.pow_le_pow_right (by omega) h16
    omega
  rw [Bool.eq_iff_iff, trB_iff hTl, Bool.and_eq_true, Bool.not_eq_true', mt_hit hT (by omega), li_sub (show gatN T < 4294967296 from bit32 _) hf]
  unfold hit
  rw [List.any_eq_false]
  constructor
  · intro h
    refine ⟨fun d hd => ?_, fun j hj => ?_⟩
    · have h1 := set_mem hT hd
      have := (h d.toNat (by rw [gat_at hT (by omega), memB_iff, show ((d.toNat : Nat) : Int) = d by omega]; exact hd)).1
      rw [this]; decide
    · rw [fcN_iff]
      exact ⟨bit_in hTl hj, (h j hj).2⟩
  · rintro ⟨h1, h2⟩ p hp
    refine ⟨?_, (fcN_iff.1 (h2 p hp)).2⟩
    have := h1 (p : Int) (by rw [gat_at hT (by omega), memB_iff] at hp; exact hp)
    rw [Int.toNat_natCast] at this
    simpa using this
set_option maxRecDepth 4000 in
set_option maxHeartbeats 3200000 in
theorem CheckTrap_any (g : Gv) (A : Option Addr) (c : Nat) (L : List Int) (A2 : Option Addr) (c2 : Nat) (T : List Int) (w : World) (hr : RdG w w.heap.size g) (hf : Gfit g) (hq : Rd w w.heap.size A (ints L)) (hn : L.length ≤ 9223372036854775807) (hq2 : Rd w w.heap.size A2 (ints T)) (hn2 : T.length ≤ 9223372036854775807) :
    Calls Try.prog 32 #[g.v, .slice A L.length c, .slice A2 T.length c2] w fun e w' => e = .returned (.int .i64 (ctE g.G L T)) ∧ Below w.heap.size w w' := by
  obtain ⟨W, hW, p0, p1, hz, hb, hr1⟩ := box_game w g 25 hr
  have R1 := Lib.hid (hq.up hb)
  have S1 := Lib.hid (hq2.up hb)
  have B0 := Lib.hid hb
  obtain ⟨W2, hW2, hb2, HC⟩ := ask_two g A c L A2 c2 T W hr1 hf R1.out hn S1.out hn2
  have B2 := Lib.hid (hb.trans (hb2.mono hb.size))
  have HCh := Lib.hid HC
  have RG2 := Lib.hid (hr1.up hb2)
  have R2 := Lib.hid (R1.out.up hb2)
  have S2 := Lib.hid (S1.out.up hb2)
  have q0 := cell_keep p0 hb2 hz
  have q1 := cell_keep p1 hb2 hz
  have hz2 : w.heap.size < W2.heap.size := Nat.lt_of_lt_of_le hz hb2.size
  by_cases hE : chkE g.G [L, T] = 0
  · obtain ⟨hA, hsT, hct⟩ := ct_ok hE
    obtain ⟨hG0, hs⟩ := askE_zero hA
    have h16 : g.own.length ≤ 16 := (gE_zero hG0).le
    rw [hE] at HCh
    rw [tr_bits h16 hs hsT] at hct
    have HG := Lib.hid (fun w h => gather_any A c L g.own.length w h hn hs (by omega))
    have HG2 := Lib.hid (fun w h => gather_any A2 c2 T g.own.length w h hn2 hsT (by omega))
    have HM := Lib.hid (fun w => meets_any (gatN T) (gatN L) w (bit32 _) (bit32 _))
    have hx : fcN g.G 1 (gatN T) < 4294967296 := by
      have h1 := fcN_lt g.G 1 (gatN T)
      have h2 : 2 ^ g.G.own.length ≤ 2 ^ 16 := Nat.pow_le_pow_right (by omega) h16
      omega
    have HL := Lib.hid (fun w => liesIn_any (gatN T) (fcN g.G 1 (gatN T)) w (bit32 _) hx)
    have HF := Lib.hid (fun w h => forced_any g 1 (gatN T) w h hf hG0 (bit32 _))
    have HCt := Lib.hid hct
    clear hr hf hq hn hq2 hn2 hb hr1 hb2 HC hE hA hG0 hs hsT h16 hx hct
    unfold Gv.v at HCh HF ⊢
    generalize g.G = G at *
    obtain ⟨A0, c0, own, A1, c1, rs⟩ := g
    simp only at hW p0 p1 q0 q1 HCh HF HG HG2 ⊢
    generalize fcN G 1 (gatN T) = X at *
    cases hm : mtB (gatN T) (gatN L)
    · cases hl : liB (gatN T) X
      · rw [hm, hl] at HCt
        rw [hm] at HM
        rw [hl] at HL
        clear hm hl
        obtain ⟨N, hN⟩ : ∃ N, ctE G L T = N := ⟨_, rfl⟩
        rw [hN] at HCt ⊢
        have hN7 : N = 7 := HCt.out
        clear HCt hN
        subst hN7
        go_enter Try.func32, Try.ntmps32
        go_wp2_with fail
        refine (HCh.out).mono ?_
        rintro e w3 ⟨rfl, hb⟩
        have B3 := Lib.hid (B2.out.trans (hb.mono B2.out.size))
        have RG3 := Lib.hid (RG2.out.up hb)
        have R3 := Lib.hid (R2.out.up hb)
        have S3 := Lib.hid (S2.out.up hb)
        have r0 := cell_keep q0 hb hz2
        have r1 := cell_keep q1 hb hz2
        clear hb q0 q1 p0 p1 hW hW2
        go_wp2_with fail
        refine (HG2.out w3 S3.out).mono ?_
        rintro e w' ⟨rfl, rfl⟩
        go_wp2_with fail
        refine (HG.out w3 R3.out).mono ?_
        rintro e w' ⟨rfl, rfl⟩
        go_wp2_with fail
        refine (HM.out w3).mono ?_
        rintro e w' ⟨rfl, rfl⟩
        go_wp2_with fail
        refine (HF.out w3 RG3.out).mono ?_
        rintro e w4 ⟨rfl, hb⟩
        have B4 := Lib.hid (B3.out.trans (hb.mono B3.out.size))
        clear hb
        go_wp2_with fail
        refine (HL.out w4).mono ?_
        rintro e w' ⟨rfl, rfl⟩
        go_wp2_with fail
        go_ret
        exact ⟨rfl, B4.out⟩
      · rw [hm, hl] at HCt
        rw [hm] at HM
        rw [hl] at HL
        clear hm hl
        obtain ⟨N, hN⟩ : ∃ N, ctE G L T = N := ⟨_, rfl⟩
        rw [hN] at HCt ⊢
        have hN7 : N = 0 := HCt.out
        clear HCt hN
        subst hN7
        go_enter Try.func32, Try.ntmps32
        go_wp2_with fail
        refine (HCh.out).mono ?_
        rintro e w3 ⟨rfl, hb⟩
        have B3 := Lib.hid (B2.out.trans (hb.mono B2.out.size))
        have RG3 := Lib.hid (RG2.out.up hb)
        have R3 := Lib.hid (R2.out.up hb)
        have S3 := Lib.hid (S2.out.up hb)
        have r0 := cell_keep q0 hb hz2
        have r1 := cell_keep q1 hb hz2
        clear hb q0 q1 p0 p1 hW hW2
        go_wp2_with fail
        refine (HG2.out w3 S3.out).mono ?_
        rintro e w' ⟨rfl, rfl⟩
        go_wp2_with fail
        refine (HG.out w3 R3.out).mono ?_
        rintro e w' ⟨rfl, rfl⟩
        go_wp2_with fail
        refine (HM.out w3).mono ?_
        rintro e w' ⟨rfl, rfl⟩
        go_wp2_with fail
        refine (HF.out w3 RG3.out).mono ?_
        rintro e w4 ⟨rfl, hb⟩
        have B4 := Lib.hid (B3.out.trans (hb.mono B3.out.size))
        clear hb
        go_wp2_with fail
        refine (HL.out w4).mono ?_
        rintro e w' ⟨rfl, rfl⟩
        go_wp2_with fail
        go_ret
        exact ⟨rfl, B4.out⟩
    · rw [hm] at HCt HM
      clear hm
      obtain ⟨N, hN⟩ : ∃ N, ctE G L T = N := ⟨_, rfl⟩
      rw [hN] at HCt ⊢
      have hN7 : N = 7 := by have h := HCt.out; simpa using h
      clear HCt hN
      subst hN7
      go_enter Try.func32, Try.ntmps32
      go_wp2_with fail
      refine (HCh.out).mono ?_
      rintro e w3 ⟨rfl, hb⟩
      have B3 := Lib.hid (B2.out.trans (hb.mono B2.out.size))
      have R3 := Lib.hid (R2.out.up hb)
      have S3 := Lib.hid (S2.out.up hb)
      clear hb q0 q1 p0 p1 hW hW2
      go_wp2_with fail
      refine (HG2.out w3 S3.out).mono ?_
      rintro e w' ⟨rfl, rfl⟩
      go_wp2_with fail
      refine (HG.out w3 R3.out).mono ?_
      rintro e w' ⟨rfl, rfl⟩
      go_wp2_with fail
      refine (HM.out w3).mono ?_
      rintro e w' ⟨rfl, rfl⟩
      go_wp2_with fail
      go_ret
      exact ⟨rfl, B3.out⟩
  · have HE := Lib.hid (ct_bad (T := T) hE)
    generalize chkE g.G [L, T] = E at *
    have hb1 : (E == 0) = false := by simpa using hE
    have hb2' : (E != 0) = true := by simpa using hE
    clear hr hf hq hn hq2 hn2 hb hr1 hb2 HC hE
    unfold Gv.v at HCh ⊢
    generalize g.G = G at *
    obtain ⟨A0, c0, own, A1, c1, rs⟩ := g
    simp only at hW p0 p1 q0 q1 HCh ⊢
    go_enter Try.func32, Try.ntmps32
    go_wp2_with fail
    refine (HCh.out).mono ?_
    rintro e w3 ⟨rfl, hb⟩
    have B3 := Lib.hid (B2.out.trans (hb.mono B2.out.size))
    clear hb
    go_wp2_with fail
    go_ret
    exact ⟨by rw [HE.out]; rfl, B3.out⟩
end Go.Proofs.Ytibcjkpfpiamkaa

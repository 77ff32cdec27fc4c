/-
  Visiting again and again: the walk of Again of the reference. Conditions: the game and the set can be read.
-/
import Derived.Test.YtibcjkpfpiamkaaLu21
namespace Go.Proofs.Ytibcjkpfpiamkaa
open Go.RowKit
set_option linter.unusedVariables false

set_option maxRecDepth 4000 in
set_option maxHeartbeats 1600000 in
theorem rAgain_any (g : Gv) (A : Option Addr) (c : Nat) (L : List Int) (w : World) (hr : RdG w w.heap.size g) (hf : Gfit g) (hq : Rd w w.heap.size A (ints L)) (hn : L.length ≤ 9223372036854775807) :
    Calls Try.prog 40 #[g.v, .slice A L.length c] w (MadeIE w (agaL g.G L) (askE g.G L)) := by
  obtain ⟨W, hW, p0, p1, hz, hb, hr1⟩ := box_game w g 25 hr
  have R1 := Lib.hid (hq.up hb)
  have RG := Lib.hid hr1
  have B0 := Lib.hid hb
  have HCh := Lib.hid (asked_any g A c L W hr1 hf R1.out hn)
  unfold agaL
  by_cases hE : askE g.G L = 0
  · rw [if_pos hE, hE]
    rw [hE] at HCh
    obtain ⟨hG0, hs⟩ := askE_zero hE
    have h16 : g.G.own.length ≤ 16 := (gE_zero hG0).le
    have hg : gatN L < 2 ^ g.G.own.length := gat_lt hs (by omega)
    have hp := p16 h16
    have HG := Lib.hid (fun w h => bits_any A c L g.own.length w h hn hs (show ((g.own.length : Nat) : Int) ≤ 31 by have e : g.G.own = g.own := rfl; rw [e] at h16; omega))
    have HAl := Lib.hid (fun w h => all_any g w h hf hG0)
    have HF := Lib.hid (fun X w h (hX : X < 65536) => before_any g X w h hf hG0 (by omega))
    have HWn := Lib.hid (fun X w h => won_any g (gatN L &&& fcN g.G 0 X) w h hf hG0 (goal_and hg X))
    have HAnd := Lib.hid (fun X => i64_and_nat (gatN L) (fcN g.G 0 X) (by omega) (Nat.lt_of_lt_of_le (fcN_lt g.G 0 X) (by omega)))
    have hm := ag_mono g.G (gatN L)
    have hs2 := ag_sub hg
    have hS := all_lt g.G.own.length
    have HLt := Lib.hid (fun k => itr_lt (n := g.own.length) hm hs2 hS k)
    have HEn := Lib.hid (fun k h => itr_end (n := g.own.length) (k := k) hm hs2 hS h)
    have HLs := Lib.hid (fun k h => sub_less (n := g.own.length) (itr_lt hm hs2 hS k) (itr_down hm hs2 k) h)
    have HN := Lib.hid (fun k => (show wonN g.G (gatN L &&& fcN g.G 0 (itr (agF g.G (gatN L)) (2 ^ g.own.length - 1) k)) = itr (agF g.G (gatN L)) (2 ^ g.own.length - 1) (k + 1) from rfl))
    have HNf := Lib.hid (fun k => (show agF g.G (gatN L) (itr (agF g.G (gatN L)) (2 ^ g.own.length - 1) k) = itr (agF g.G (gatN L)) (2 ^ g.own.length - 1) (k + 1) from rfl))
    have hx : agN g.G (gatN L) < 65536 := Nat.lt_of_lt_of_le (ag_lt2 hg) hp
    have HL := Lib.hid (fun w => rlist_any (agN g.G (gatN L)) w hx)
    have HK := Lib.hid (show agN g.G (gatN L) = itr (agF g.G (gatN L)) (2 ^ g.own.length - 1) g.own.length from rfl)
    have HP := Lib.hid (show 2 ^ g.own.length ≤ 65536 from hp)
    have e : g.G.own = g.own := rfl
    rw [e] at HLt HEn HLs
    clear hr hf hq hn hb hr1 hE hG0 hs h16 hg hp hm hs2 hS hx e
    unfold Gv.v at HCh HAl HF HWn ⊢
    generalize agF g.G (gatN L) = F at *
    generalize agN g.G (gatN L) = KN at *
    generalize g.G = G at *
    obtain ⟨A0, c0, own, A1, c1, rs⟩ := g
    simp only at hW p0 p1 HCh HAl HF HWn HLt HEn HLs HN HNf HK HP ⊢
    generalize 2 ^ own.length - 1 = S at *
    go_enter Try.func40, Try.ntmps40
    go_wp2_with fail
    refine (HCh.out).mono ?_
    rintro e w3 ⟨rfl, hb⟩
    have B3 := Lib.hid (B0.out.trans (hb.mono B0.out.size))
    have RG3 := Lib.hid (RG.out.up hb)
    have R3 := Lib.hid (R1.out.up hb)
    have r0 := cell_keep p0 hb hz
    have r1 := cell_keep p1 hb hz
    have hz3 : w.heap.size < w3.heap.size := Nat.lt_of_lt_of_le hz hb.size
    clear hb p0 p1 hW
    go_wp2_with fail
    refine (HAl.out w3 RG3.out).mono ?_
    rintro e w4 ⟨rfl, hb⟩
    have B4 := Lib.hid (B3.out.trans (hb.mono B3.out.size))
    have RG4 := Lib.hid (RG3.out.up hb)
    have R4 := Lib.hid (R3.out.up hb)
    have s0 := cell_keep r0 hb hz3
    have s1 := cell_keep r1 hb hz3
    have hz4 : w.heap.size < w4.heap.size := Nat.lt_of_lt_of_le hz3 hb.size
    clear hb r0 r1
    go_wp2_with fail
    go_loopw [7] (fun v wr => ∃ k : Nat, v = .int .i64 (itr F S k : Nat) ∧ Below w4.heap.size w4 wr) (fun v _ => cntK (intOf v).toNat.testBit own.length)
    case atStart => exact ⟨0, rfl, Below.refl _ _⟩
    case round =>
      obtain ⟨k, rfl, hb⟩ := hrel
      have BW := Lib.hid hb
      have RG5 := Lib.hid (RG4.out.up hb)
      have R5 := Lib.hid (R4.out.up hb)
      have y0 := cell_keep s0 hb hz4
      have y1 := cell_keep s1 hb hz4
      have hlt := HLt.out k
      have HFk := Lib.hid (fun w h => HF.out (itr F S k) w h (by have := HP.out; omega))
      have HWk := Lib.hid (fun w h => HWn.out (itr F S k) w h)
      rw [HN.out k] at HWk
      have ha := HAnd.out (itr F S k)
      have HNk := Lib.hid (HNf.out k)
      have HLk := Lib.hid (HLs.out k)
      have HEk := Lib.hid (HEn.out k)
      clear hb hlt
      generalize gatN L &&& fcN G 0 (itr F S k) = Z at *
      generalize fcN G 0 (itr F S k) = FC at *
      have g0 := fun d os => cell_regrown y0 d os
      have g1 := fun d os => cell_regrown y1 d os
      by_cases he : itr F S (k + 1) = itr F S k
      · have e1 : (((itr F S (k + 1) : Nat) : Int) == ((itr F S k : Nat) : Int)) = true := by rw [he]; simp
        have HE := Lib.hid (HEk.out (by rw [HNk.out]; exact he))
        have e2 : (itr F S (k + 1) == itr F S k) = true := by rw [he]; simp
        have hk : itr F S k = KN := by rw [HK.out, ← HE.out]
        clear he
        generalize itr F S (k + 1) = I1 at *
        subst hk
        go_wp2_with fail
        refine wp_region_quiet_below (by kernel_rfl) (by kernel_rfl) ?_
        repeat (go_big_quiet_step (first | (with_reducible exact Calls.regrown_of (sbl (HG.out _ (R5.out.up (below_regrown _ _ _))))) | (with_reducible exact Calls.regrown_of (HFk.out _ (RG5.out.up (below_regrown _ _ _)))) | (with_reducible exact Calls.regrown_of (HWk.out _ (RG5.out.up (below_regrown _ _ _))))))
        refine wpQuiet_nil ?_
        intro _ hw'
        obtain ⟨⟨dq, osq⟩, hw''⟩ := hw'
        subst hw''
        have B6 := Lib.hid (BW.out.trans ((below_regrown wr dq osq).mono BW.out.size))
        have B7 := Lib.hid (B4.out.trans (B6.out.mono B4.out.size))
        go_wp2_with fail
        refine (HL.out _).mono ?_
        rintro e w8 ⟨A8, c8, rfl, hc8, hf8, hr8, hb8⟩
        go_wp2_with fail
        go_ret2
        exact ⟨A8, c8, rfl, hc8, hf8.le B7.out.size, hr8, B7.out.trans (hb8.mono B7.out.size)⟩
      · have e1 : (((itr F S (k + 1) : Nat) : Int) == ((itr F S k : Nat) : Int)) = false := by rw [beq_eq_false_iff_ne]; intro h; exact he (by exact_mod_cast h)
        have e2 : (itr F S (k + 1) == itr F S k) = false := by rw [beq_eq_false_iff_ne]; exact he
        have HM := Lib.hid (HLk.out he)
        clear he
        go_wp2_with fail
        refine wp_region_quiet_below (by kernel_rfl) (by kernel_rfl) ?_
        repeat (go_big_quiet_step (first | (with_reducible exact Calls.regrown_of (sbl (HG.out _ (R5.out.up (below_regrown _ _ _))))) | (with_reducible exact Calls.regrown_of (HFk.out _ (RG5.out.up (below_regrown _ _ _)))) | (with_reducible exact Calls.regrown_of (HWk.out _ (RG5.out.up (below_regrown _ _ _))))))
        refine wpQuiet_nil ?_
        intro _ hw'
        obtain ⟨⟨dq, osq⟩, hw''⟩ := hw'
        subst hw''
        have B6 := Lib.hid (BW.out.trans ((below_regrown wr dq osq).mono BW.out.size))
        go_wp2_with fail
        go_roundw
        case rel => exact ⟨k + 1, rfl, B6.out⟩
        case measure => simp [intOf]; exact HM.out
  · rw [if_neg hE]
    generalize askE g.G L = E at *
    have hb1 : (E == 0) = false := by simpa using hE
    have hb2' : (E != 0) = true := by simpa using hE
    clear hr hf hq hn hb hr1 hE
    unfold Gv.v at HCh ⊢
    generalize g.G = G at *
    obtain ⟨A0, c0, own, A1, c1, rs⟩ := g
    simp only at hW p0 p1 HCh ⊢
    go_enter Try.func40, Try.ntmps40
    go_wp2_with fail
    refine (HCh.out).mono ?_
    rintro e w3 ⟨rfl, hb⟩
    have B3 := Lib.hid (B0.out.trans (hb.mono B0.out.size))
    clear hb
    go_wp2_with fail
    go_ret2
    exact ⟨none, 0, rfl, by decide, fresh_nil w, .inl rfl, B3.out⟩
end Go.Proofs.Ytibcjkpfpiamkaa

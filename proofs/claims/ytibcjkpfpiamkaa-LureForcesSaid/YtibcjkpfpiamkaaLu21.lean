/-
  Sets that shrink: the walks of kept, Keeps, Again of both sides. Conditions: the game and the set can be read.
-/
import Derived.Test.YtibcjkpfpiamkaaLu20
namespace Go.Proofs.Ytibcjkpfpiamkaa
open Go.RowKit
set_option linter.unusedVariables false

def kepL (G : Gm) (L : List Int) : List Int := if askE G L = 0 then lst (kpN G (gatN L)) else []
def agaL (G : Gm) (L : List Int) : List Int := if askE G L = 0 then lst (agN G (gatN L)) else []
set_option maxRecDepth 4000 in
set_option maxHeartbeats 800000 in
theorem kept_any (g : Gv) (S : Nat) (w : World) (hr : RdG w w.heap.size g) (hf : Gfit g) (hE : gE g.G = 0) (hS : S < 2 ^ g.own.length) :
    Calls Try.prog 80 #[g.v, .int .i64 S] w fun e w' => e = .returned (.int .i64 (kpN g.G S : Nat)) ∧ Below w.heap.size w w' := by
  obtain ⟨W, hW, p0, p1, hz, hb, hr1⟩ := box_game w g 25 hr
  have RG := Lib.hid hr1
  have B0 := Lib.hid hb
  have h16 : g.own.length ≤ 16 := (gE_zero hE).le
  have hp := p16 h16
  have hm := kp_mono g.G
  have hs := kp_sub g.G S
  have HLt := Lib.hid (fun k => itr_lt (n := g.own.length) hm hs hS k)
  have HEn := Lib.hid (fun k h => itr_end (n := g.own.length) (k := k) hm hs hS h)
  have HLs := Lib.hid (fun k h => sub_less (n := g.own.length) (itr_lt hm hs hS k) (itr_down hm hs k) h)
  have HC := Lib.hid (fun X w h (hX : X < 65536) => before_any g X w h hf hE (by omega))
  have HA := Lib.hid (fun X (hX : X < 65536) => (show bits .and .i64 ((X : Nat) : Int) ((fcN g.G 0 X : Nat) : Int) = ((kpF g.G X : Nat) : Int) from i64_and_nat _ _ (by omega) (Nat.lt_of_lt_of_le (fcN_lt g.G 0 X) (Nat.le_trans (p16 h16) (by omega)))))
  have HN := Lib.hid (fun k => (show (kpF g.G) (itr (kpF g.G) S k) = itr (kpF g.G) S (k + 1) from rfl))
  have HK := Lib.hid (show kpN g.G S = itr (kpF g.G) S g.own.length from rfl)
  clear hr hf hE hb hr1 hm hs
  unfold Gv.v at HC ⊢
  generalize kpN g.G S = KN at *
  generalize kpF g.G = F at *
  generalize g.G = G at *
  obtain ⟨A0, c0, own, A1, c1, rs⟩ := g
  simp only at hW p0 p1 HC HLt HEn HLs HK h16 hp ⊢
  go_enter Try.func80, Try.ntmps80
  go_wp2_with fail
  clear hW
  go_loopw [1] (fun v wr => ∃ k : Nat, v = .int .i64 (itr F S k : Nat) ∧ Below W.heap.size W wr) (fun v _ => cntK (intOf v).toNat.testBit own.length)
  case atStart => exact ⟨0, rfl, Below.refl _ _⟩
  case round =>
    obtain ⟨k, rfl, hb⟩ := hrel
    have BW := Lib.hid hb
    have RG1 := Lib.hid (RG.out.up hb)
    have y0 := cell_keep p0 hb hz
    have y1 := cell_keep p1 hb hz
    have hlt := HLt.out k
    have HQ := Lib.hid (HC.out (itr F S k) wr RG1.out (by omega))
    have ha := HA.out (itr F S k) (by omega)
    rw [HN.out k] at ha
    have HNk := Lib.hid (HN.out k)
    have HLk := Lib.hid (HLs.out k)
    have HEk := Lib.hid (HEn.out k)
    clear hb hlt
    by_cases he : itr F S (k + 1) = itr F S k
    · have e1 : (((itr F S (k + 1) : Nat) : Int) == ((itr F S k : Nat) : Int)) = true := by rw [he]; simp
      have HE := Lib.hid (HEk.out (by rw [HNk.out]; exact he))
      have e2 : (itr F S (k + 1) == itr F S k) = true := by rw [he]; simp
      clear he
      generalize itr F S (k + 1) = I1 at *
      generalize fcN G 0 (itr F S k) = FC at *
      generalize itr F S k = I0 at *
      go_wp2_with fail
      refine (HQ.out).mono ?_
      rintro e w2 ⟨rfl, hb⟩
      have B2 := Lib.hid (BW.out.trans (hb.mono BW.out.size))
      clear hb
      go_wp2_with fail
      go_ret
      exact ⟨by rw [HK.out, ← HE.out]; rfl, B0.out.trans (B2.out.mono B0.out.size)⟩
    · have e1 : (((itr F S (k + 1) : Nat) : Int) == ((itr F S k : Nat) : Int)) = false := by rw [beq_eq_false_iff_ne]; intro h; exact he (by exact_mod_cast h)
      have e2 : (itr F S (k + 1) == itr F S k) = false := by rw [beq_eq_false_iff_ne]; exact he
      have HM := Lib.hid (HLk.out he)
      clear he
      generalize hFC : fcN G 0 (itr F S k) = FC at HQ ha
      go_wp2_with fail
      refine (HQ.out).mono ?_
      rintro e w2 ⟨rfl, hb⟩
      have B2 := Lib.hid (BW.out.trans (hb.mono BW.out.size))
      clear hb
      go_wp2_with fail
      go_roundw
      case rel => exact ⟨k + 1, by first | rfl | rw [ha], B2.out⟩
      case measure => simp [intOf]; exact HM.out
set_option maxRecDepth 4000 in
set_option maxHeartbeats 1600000 in
theorem Keeps_any (g : Gv) (A : Option Addr) (c : Nat) (L : List Int) (w : World) (hr : RdG w w.heap.size g) (hf : Gfit g) (hq : Rd w w.heap.size A (ints L)) (hn : L.length ≤ 9223372036854775807) :
    Calls Try.prog 41 #[g.v, .slice A L.length c] w (MadeIE w (kepL g.G L) (askE g.G L)) := by
  obtain ⟨W, hW, p0, p1, hz, hb, hr1⟩ := box_game w g 25 hr
  have R1 := Lib.hid (hq.up hb)
  have B0 := Lib.hid hb
  obtain ⟨W2, hW2, hb2, HC⟩ := ask_one g A c L W hr1 hf R1.out hn
  have B2 := Lib.hid (hb.trans (hb2.mono hb.size))
  have HCh := Lib.hid HC
  have RG2 := Lib.hid (hr1.up hb2)
  have R2 := Lib.hid (R1.out.up hb2)
  have q0 := cell_keep p0 hb2 hz
  have q1 := cell_keep p1 hb2 hz
  have hz2 : w.heap.size < W2.heap.size := Nat.lt_of_lt_of_le hz hb2.size
  unfold kepL
  by_cases hE : askE g.G L = 0
  · rw [if_pos hE, hE]
    rw [hE] at HCh
    obtain ⟨hG0, hs⟩ := askE_zero hE
    have h16 : g.G.own.length ≤ 16 := (gE_zero hG0).le
    have hg : gatN L < 2 ^ g.G.own.length := gat_lt hs (by omega)
    have hp := p16 h16
    have HG := Lib.hid (fun w h => gather_any A c L g.own.length w h hn hs (show ((g.own.length : Nat) : Int) ≤ 31 by have e : g.G.own = g.own := rfl; rw [e] at h16; omega))
    have HS := Lib.hid (fun b w h q0 q1 hb => shrinkK_any g b (gatN L) w h hf hG0 q0 q1 hb (kp_mono g.G) (kp_sub g.G _) hg)
    have hx : kpN g.G (gatN L) < 4294967296 := Nat.lt_of_lt_of_le (kp_lt hg) (by omega)
    have HL := Lib.hid (fun w => list_any (kpN g.G (gatN L)) w hx)
    have HKN := Lib.hid (show itr (kpF g.G) (gatN L) g.own.length = kpN g.G (gatN L) from rfl)
    rw [HKN.out] at HS
    clear hx
    clear hr hf hq hn hb hr1 hb2 HC hE hG0 hs h16 hg hp
    unfold Gv.v at HCh  ⊢
    generalize kpN g.G (gatN L) = K at *
    generalize g.G = G at *
    obtain ⟨A0, c0, own, A1, c1, rs⟩ := g
    simp only at hW p0 p1 q0 q1 HCh  HS ⊢
    go_enter Try.func41, Try.ntmps41
    go_wp2_with fail
    refine (HCh.out).mono ?_
    rintro e w3 ⟨rfl, hb⟩
    have B3 := Lib.hid (B2.out.trans (hb.mono B2.out.size))
    have RG3 := Lib.hid (RG2.out.up hb)
    have R3 := Lib.hid (R2.out.up hb)
    have r0 := cell_keep q0 hb hz2
    have r1 := cell_keep q1 hb hz2
    have hz3 : w.heap.size < w3.heap.size := Nat.lt_of_lt_of_le hz2 hb.size
    clear hb q0 q1 p0 p1 hW hW2
    go_wp2_with fail
    refine (HG.out w3 R3.out).mono ?_
    rintro e w' ⟨rfl, rfl⟩
    go_wp2_with fail
    refine (HS.out w.heap.size w3 RG3.out r0 r1 hz3).mono ?_
    rintro e w4 ⟨rfl, hb⟩
    have B4 := Lib.hid (B3.out.trans (hb.mono B3.out.size))
    clear hb
    go_wp2_with fail
    refine (HL.out w4).mono ?_
    rintro e w6 ⟨A6, c6, rfl, hc6, hf6, hr6, hb6⟩
    have F6 := Lib.hid (hf6.le B4.out.size)
    have R6 := Lib.hid hr6
    have B6 := Lib.hid (B4.out.trans (hb6.mono B4.out.size))
    clear hf6 hr6 hb6
    go_wp2_with fail
    go_ret2
    exact ⟨A6, c6, rfl, hc6, F6.out, R6.out, B6.out⟩
  · rw [if_neg hE]
    generalize askE g.G L = E at *
    have hb1 : (E == 0) = false := by simpa using hE
    have hb2' : (E != 0) = true := by simpa using hE
    clear hr hf hq hn hb hr1 hb2 HC hE
    unfold Gv.v at HCh ⊢
    generalize g.G = G at *
    obtain ⟨A0, c0, own, A1, c1, rs⟩ := g
    simp only at hW p0 p1 q0 q1 HCh ⊢
    go_enter Try.func41, Try.ntmps41
    go_wp2_with fail
    refine (HCh.out).mono ?_
    rintro e w3 ⟨rfl, hb⟩
    have B3 := Lib.hid (B2.out.trans (hb.mono B2.out.size))
    clear hb
    go_wp2_with fail
    go_ret2
    exact ⟨none, 0, rfl, by decide, fresh_nil w, .inl rfl, B3.out⟩
set_option maxRecDepth 4000 in
set_option maxHeartbeats 1600000 in
theorem Again_any (g : Gv) (A : Option Addr) (c : Nat) (L : List Int) (w : World) (hr : RdG w w.heap.size g) (hf : Gfit g) (hq : Rd w w.heap.size A (ints L)) (hn : L.length ≤ 9223372036854775807) :
    Calls Try.prog 39 #[g.v, .slice A L.length c] w (MadeIE w (agaL g.G L) (askE g.G L)) := by
  obtain ⟨W, hW, p0, p1, hz, hb, hr1⟩ := box_game w g 25 hr
  have R1 := Lib.hid (hq.up hb)
  have B0 := Lib.hid hb
  obtain ⟨W2, hW2, hb2, HC⟩ := ask_one g A c L W hr1 hf R1.out hn
  have B2 := Lib.hid (hb.trans (hb2.mono hb.size))
  have HCh := Lib.hid HC
  have RG2 := Lib.hid (hr1.up hb2)
  have R2 := Lib.hid (R1.out.up hb2)
  have q0 := cell_keep p0 hb2 hz
  have q1 := cell_keep p1 hb2 hz
  have hz2 : w.heap.size < W2.heap.size := Nat.lt_of_lt_of_le hz hb2.size
  unfold agaL
  by_cases hE : askE g.G L = 0
  · rw [if_pos hE, hE]
    rw [hE] at HCh
    obtain ⟨hG0, hs⟩ := askE_zero hE
    have h16 : g.G.own.length ≤ 16 := (gE_zero hG0).le
    have hg : gatN L < 2 ^ g.G.own.length := gat_lt hs (by omega)
    have hp := p16 h16
    have HG := Lib.hid (fun w h => gather_any A c L g.own.length w h hn hs (show ((g.own.length : Nat) : Int) ≤ 31 by have e : g.G.own = g.own := rfl; rw [e] at h16; omega))
    have HS := Lib.hid (fun b bv w h q0 q1 qv hb hv => shrinkA_any g b bv (2 ^ g.own.length - 1) (gatN L) w h hf hG0 q0 q1 qv hb hv hg (ag_mono g.G _) (ag_sub hg) (all_lt _))
    have HEv := Lib.hid (fun w h => every_any g w h hf hG0)
    have hx : agN g.G (gatN L) < 4294967296 := Nat.lt_of_lt_of_le (ag_lt2 hg) (by omega)
    have HL := Lib.hid (fun w => list_any (agN g.G (gatN L)) w hx)
    have HKN := Lib.hid (show itr (agF g.G (gatN L)) (2 ^ g.own.length - 1) g.own.length = agN g.G (gatN L) from rfl)
    rw [HKN.out] at HS
    clear hx
    clear hr hf hq hn hb hr1 hb2 HC hE hG0 hs h16 hg hp
    unfold Gv.v at HCh HEv ⊢
    generalize agN g.G (gatN L) = K at *
    generalize 2 ^ g.own.length - 1 = V at *
    generalize g.G = G at *
    obtain ⟨A0, c0, own, A1, c1, rs⟩ := g
    simp only at hW p0 p1 q0 q1 HCh HEv HS ⊢
    go_enter Try.func39, Try.ntmps39
    go_wp2_with fail
    refine (HCh.out).mono ?_
    rintro e w3 ⟨rfl, hb⟩
    have B3 := Lib.hid (B2.out.trans (hb.mono B2.out.size))
    have RG3 := Lib.hid (RG2.out.up hb)
    have R3 := Lib.hid (R2.out.up hb)
    have r0 := cell_keep q0 hb hz2
    have r1 := cell_keep q1 hb hz2
    have hz3 : w.heap.size < w3.heap.size := Nat.lt_of_lt_of_le hz2 hb.size
    clear hb q0 q1 p0 p1 hW hW2
    go_wp2_with fail
    refine (HG.out w3 R3.out).mono ?_
    rintro e w' ⟨rfl, rfl⟩
    obtain ⟨w4, hw4, k4, s4, b4⟩ := one_blk w3 #[.int .u32 ((gatN L : Nat) : Int)] 50
    have RG4 := Lib.hid (RG3.out.up b4)
    have t0 := cell_keep r0 b4 hz3
    have t1 := cell_keep r1 b4 hz3
    have hz4 : w.heap.size < w4.heap.size := Nat.lt_of_lt_of_le hz3 b4.size
    have cv : w4.cell? ⟨w3.heap.size, 0, none⟩ = some (.int .u32 ((gatN L : Nat) : Int)) := by rw [blk_cell k4]; rfl
    have B4 := Lib.hid (B3.out.trans (b4.mono B3.out.size))
    clear k4 b4
    go_wp2_with (go_at_call 62; refine (HEv.out w4 RG4.out).mono ?_; rintro e w5 ⟨rfl, hb⟩; have B5 := Lib.hid (B4.out.trans (hb.mono B4.out.size)); have RG5 := Lib.hid (RG4.out.up hb); have u0 := cell_keep t0 hb hz4; have u1 := cell_keep t1 hb hz4; have uv := cell_keep cv hb s4; have hz5 : w.heap.size < w5.heap.size := Nat.lt_of_lt_of_le hz4 hb.size; have hv5 : w3.heap.size < w5.heap.size := Nat.lt_of_lt_of_le s4 hb.size; clear hb)
    refine (HS.out w.heap.size w3.heap.size w5 RG5.out u0 u1 uv hz5 hv5).mono ?_
    rintro e w7 ⟨rfl, hb⟩
    have B7 := Lib.hid (B5.out.trans (hb.mono B5.out.size))
    clear hb
    go_wp2_with fail
    refine (HL.out w7).mono ?_
    rintro e w6 ⟨A6, c6, rfl, hc6, hf6, hr6, hb6⟩
    have F6 := Lib.hid (hf6.le B7.out.size)
    have R6 := Lib.hid hr6
    have B6 := Lib.hid (B7.out.trans (hb6.mono B7.out.size))
    clear hf6 hr6 hb6
    go_wp2_with fail
    go_ret2
    exact ⟨A6, c6, rfl, hc6, F6.out, R6.out, B6.out⟩
  · rw [if_neg hE]
    generalize askE g.G L = E at *
    have hb1 : (E == 0) = false := by simpa using hE
    have hb2' : (E != 0) = true := by simpa using hE
    clear hr hf hq hn hb hr1 hb2 HC hE
    unfold Gv.v at HCh ⊢
    generalize g.G = G at *
    obtain ⟨A0, c0, own, A1, c1, rs⟩ := g
    simp only at hW p0 p1 q0 q1 HCh ⊢
    go_enter Try.func39, Try.ntmps39
    go_wp2_with fail
    refine (HCh.out).mono ?_
    rintro e w3 ⟨rfl, hb⟩
    have B3 := Lib.hid (B2.out.trans (hb.mono B2.out.size))
    clear hb
    go_wp2_with fail
    go_ret2
    exact ⟨none, 0, rfl, by decide, fresh_nil w, .inl rfl, B3.out⟩
set_option maxRecDepth 4000 in
set_option maxHeartbeats 1600000 in
theorem rKeeps_any (g : Gv) (A : Option Addr) (c : Nat) (L : List Int) (w : World) (hr : RdG w w.heap.size g) (hf : Gfit g) (hq : Rd w w.heap.size A (ints L)) (hn : L.length ≤ 9223372036854775807) :
    Calls Try.prog 42 #[g.v, .slice A L.length c] w (MadeIE w (kepL g.G L) (askE g.G L)) := by
  obtain ⟨W, hW, p0, p1, hz, hb, hr1⟩ := box_game w g 25 hr
  have R1 := Lib.hid (hq.up hb)
  have RG := Lib.hid hr1
  have B0 := Lib.hid hb
  have HCh := Lib.hid (asked_any g A c L W hr1 hf R1.out hn)
  have B2 := B0
  have RG2 := RG
  have R2 := R1
  have q0 := p0
  have q1 := p1
  have hz2 := hz
  unfold kepL
  by_cases hE : askE g.G L = 0
  · obtain ⟨hG0, hs⟩ := askE_zero hE
    have h16 : g.G.own.length ≤ 16 := (gE_zero hG0).le
    have hg : gatN L < 2 ^ g.G.own.length := gat_lt hs (by omega)
    have hp16 : 2 ^ g.G.own.length ≤ 65536 := show 2 ^ g.G.own.length ≤ 2 ^ 16 from Nat.pow_le_pow_right (by omega) h16
    have HG := Lib.hid (fun w h => bits_any A c L g.own.length w h hn hs (show ((g.own.length : Nat) : Int) ≤ 31 by have e : g.G.own = g.own := rfl; rw [e] at h16; omega))
    rw [if_pos hE, hE]
    rw [hE] at HCh
    have HKp := Lib.hid (fun w h => kept_any g (gatN L) w h hf hG0 hg)
    have hx : kpN g.G (gatN L) < 65536 := Nat.lt_of_lt_of_le (kp_lt hg) hp16
    have HL := Lib.hid (fun w => rlist_any (kpN g.G (gatN L)) w hx)
    clear hr hf hq hn hb hr1 hE hG0 hs hg h16 hp16 hx
    unfold Gv.v at HCh HKp ⊢
    generalize kpN g.G (gatN L) = X at *
    generalize g.G = G at *
    obtain ⟨A0, c0, own, A1, c1, rs⟩ := g
    simp only at hW p0 p1 q0 q1 HCh HKp ⊢
    go_enter Try.func42, Try.ntmps42
    go_wp2_with fail
    refine (HCh.out).mono ?_
    rintro e w3 ⟨rfl, hb⟩
    have B3 := Lib.hid (B2.out.trans (hb.mono B2.out.size))
    have RG3 := Lib.hid ((RG2.out.up hb).up (Below.refl w3.heap.size w3).drew)
    have R3 := Lib.hid (R2.out.up hb)
    have HK := Lib.hid (fun (w5 : World) (h : Below w3.heap.size w3 w5) => And.intro (cell_keep (cell_keep q0 hb hz2) h (Nat.lt_of_lt_of_le hz2 hb.size)) (cell_keep (cell_keep q1 hb hz2) h (Nat.lt_of_lt_of_le hz2 hb.size)))
    have HS0 := Lib.hid (HK.out w3.drew ((Below.refl _ w3).drew))
    have BD := Lib.hid ((Below.refl w3.heap.size w3).drew)
    clear hb q0 q1 p0 p1 hW
    go_wp2_with fail
    go_region_held3 (fun w' => w'.cell? ⟨w.heap.size, 0, none⟩ = some (.slice A0 own.length c0) ∧ w'.cell? ⟨w.heap.size, 1, none⟩ = some (.slice A1 rs.length c1))
      (first | exact HS0.out | exact SK5.out | exact SK6.out)
      ((first
        | (go_at_call 54; refine (HG.out w3.drew R3.out).mono ?_; rintro e wq ⟨rfl, rfl⟩)
        | (go_at_call 80; refine (HKp.out w3.drew RG3.out).mono ?_; rintro e w5 ⟨rfl, hb⟩; have B5 := Lib.hid (BD.out.trans (hb.mono BD.out.size)); have SK5 := Lib.hid (HK.out w5 B5.out); have RG5 := Lib.hid (RG3.out.up hb); have R5 := Lib.hid ((R3.out.up BD.out).up hb); clear hb)
        | (go_at_call 52; refine (HL.out w5).mono ?_; rintro e w6 ⟨A6, c6, rfl, hc6, hf6, hr6, hb⟩; have B6 := Lib.hid (B5.out.trans (hb.mono B5.out.size)); have SK6 := Lib.hid (HK.out w6 B6.out); have F6 := Lib.hid (hf6.le B5.out.size); have R6 := Lib.hid hr6; clear hb hf6 hr6)))
    go_wp2_with fail
    go_ret2
    exact ⟨A6, c6, rfl, hc6, F6.out.le B3.out.size, R6.out, B3.out.trans (B6.out.mono B3.out.size)⟩
  · rw [if_neg hE]
    generalize askE g.G L = E at *
    have hb1 : (E == 0) = false := by simpa using hE
    have hb2' : (E != 0) = true := by simpa using hE
    clear hr hf hq hn hb hr1 hE
    unfold Gv.v at HCh ⊢
    generalize g.G = G at *
    obtain ⟨A0, c0, own, A1, c1, rs⟩ := g
    simp only at hW p0 p1 q0 q1 HCh ⊢
    go_enter Try.func42, Try.ntmps42
    go_wp2_with fail
    refine (HCh.out).mono ?_
    rintro e w3 ⟨rfl, hb⟩
    have B3 := Lib.hid (B2.out.trans (hb.mono B2.out.size))
    clear hb
    go_wp2_with fail
    go_ret2
    exact ⟨none, 0, rfl, by decide, fresh_nil w, .inl rfl, B3.out⟩
end Go.Proofs.Ytibcjkpfpiamkaa

/-
  Lists that prove wins: the walks of areRanks, CheckRanks of package lure. Conditions: the game and the lists can be read.
-/
import Derived.Test.YtibcjkpfpiamkaaLu15
namespace Go.Proofs.Ytibcjkpfpiamkaa
open Go.RowKit
set_option linter.unusedVariables false

theorem sb {P : Program} {f : FuncId} {args : Array Value} {w : World} {v : Value} (h : Calls P f args w fun e w' => e = .returned v ∧ w = w') : Calls P f args w fun e w' => e = .returned v ∧ Below w.heap.size w w' := h.mono fun _ _ ⟨he, hw⟩ => ⟨he, by subst hw; exact Below.refl _ _⟩
theorem areL_bad {G : Gm} {R : List Int} {k : Nat} {d : Int} (h : R[k]? = some d) (hb : areB d = false) : areL G R = false := by
  unfold areL
  rw [show R.all areB = false from by rw [List.all_eq_false]; exact ⟨d, List.mem_of_getElem? h, by rw [hb]; decide⟩]
  rfl
theorem areL_end {G : Gm} {R : List Int} (h : ∀ (j : Nat) d, j < R.length → R[j]? = some d → areB d = true) : areL G R = decide (R.length = G.own.length) := by
  unfold areL
  rw [show R.all areB = true from List.all_eq_true.2 fun d hd => by
    obtain ⟨k, hk, he⟩ := List.getElem_of_mem hd
    exact h k d hk (by rw [← he]; exact List.getElem?_eq_getElem hk)]
  rfl
theorem each_next {p : Int → Bool} {R : List Int} {k : Nat} {d : Int} (hk : R[k]? = some d) (h : p d = true) (ha : ∀ (j : Nat) e, j < k → R[j]? = some e → p e = true) : ∀ (j : Nat) e, j < k + 1 → R[j]? = some e → p e = true := fun j e hj he => by
  by_cases hjk : j = k
  · subst hjk
    obtain rfl := Option.some.inj (hk.symm.trans he)
    exact h
  · exact ha j e (by omega) he
set_option maxRecDepth 4000 in
set_option maxHeartbeats 800000 in
theorem areRanks_any (g : Gv) (A : Option Addr) (c : Nat) (R : List Int) (w : World) (hr : RdG w w.heap.size g) (hf : Gfit g) (hq : Rd w w.heap.size A (ints R)) (hn : R.length ≤ 9223372036854775807) :
    Calls Try.prog 67 #[g.v, .slice A R.length c] w fun e w' => e = .returned (.bool (areL g.G R)) ∧ Below w.heap.size w w' := by
  obtain ⟨W, hW, p0, p1, hz, hb, hr1⟩ := box_game w g 25 hr
  have R1 := Lib.hid (hq.up hb)
  have B0 := Lib.hid hb
  have HB := Lib.hid (fun k d h hb => areL_bad (G := g.G) (R := R) (k := k) (d := d) h hb)
  have HE := Lib.hid (fun h => areL_end (G := g.G) (R := R) h)
  have e : g.G.own = g.own := rfl
  rw [e] at HE
  generalize areL g.G R = B at *
  obtain ⟨A0, c0, own, A1, c1, rs⟩ := g
  unfold Gv.v
  simp only at *
  clear hr hf hb hr1 hq e
  go_enter Try.func67, Try.ntmps67
  go_wp2_with fail
  clear hW
  go_loopw [9] (fun i wr => ∃ k : Nat, k ≤ R.length ∧ i = .int .i64 k ∧ (∀ (j : Nat) d, j < k → R[j]? = some d → areB d = true) ∧ wr = W) (fun i _ => R.length - (intOf i).toNat)
  case atStart => exact ⟨0, by omega, rfl, fun j d hj => by omega, rfl⟩
  case round =>
    obtain ⟨k, hk, rfl, hall, rfl⟩ := hrel
    have HA := Lib.hid hall
    clear hall
    by_cases hlt : k < R.length
    · obtain ⟨b, o, d, rfl, hd, hc⟩ := R1.out.int k hlt
      by_cases h1 : d < -1
      · have e1 : decide (d < -1) = true := by simpa using h1
        have HQ := Lib.hid (HB.out k d hd.out (by unfold areB; rw [decide_eq_false (show ¬ -1 ≤ d by omega)]; rfl))
        clear h1
        go_wp2_with fail
        go_ret
        exact ⟨by rw [HQ.out]; rfl, B0.out⟩
      · have e1 : decide (d < -1) = false := by simpa using h1
        by_cases h2 : 16 < d
        · have e2 : decide (16 < d) = true := by simpa using h2
          have HQ := Lib.hid (HB.out k d hd.out (by unfold areB; rw [decide_eq_false (show ¬ d ≤ 16 by omega), Bool.and_false]))
          clear h1 h2
          go_wp2_with fail
          go_ret
          exact ⟨by rw [HQ.out]; rfl, B0.out⟩
        · have e2 : decide (16 < d) = false := by simpa using h2
          have HQ := Lib.hid (each_next (p := areB) hd.out (by unfold areB; rw [decide_eq_true (show -1 ≤ d by omega), decide_eq_true (show d ≤ 16 by omega)]; rfl) HA.out)
          clear h1 h2
          go_wp2_with fail
          go_roundw
          case rel => exact ⟨k + 1, by omega, by go_num, HQ.out, by first | rfl | trivial⟩
          case measure => simp [intOf]; omega
    · have hks : k = R.length := by omega
      subst hks
      have HQ := Lib.hid (HE.out HA.out)
      by_cases h3 : R.length = own.length
      · have e3 : ((R.length : Int) == (own.length : Int)) = true := by rw [beq_iff_eq]; omega
        have e4 : (R.length == own.length) = true := by rw [beq_iff_eq]; omega
        have e5 : decide (R.length = own.length) = true := decide_eq_true h3
        rw [e5] at HQ
        clear h3 e5
        go_wp2_with fail
        go_ret
        exact ⟨by rw [HQ.out]; rfl, B0.out⟩
      · have e3 : ((R.length : Int) == (own.length : Int)) = false := by rw [beq_eq_false_iff_ne]; omega
        have e4 : (R.length == own.length) = false := by rw [beq_eq_false_iff_ne]; omega
        have e5 : decide (R.length = own.length) = false := decide_eq_false h3
        rw [e5] at HQ
        clear h3 e5
        go_wp2_with fail
        go_ret
        exact ⟨by rw [HQ.out]; rfl, B0.out⟩
theorem cr_end {G : Gm} {L R : List Int} (h : askE G L = 0) (ha : areL G R = true) (hc : ∀ p, p < G.own.length → crB G (gatN L) R p = true) : crE G L R = 0 := by
  unfold crE
  rw [if_pos h, if_pos ha, if_pos]
  exact List.all_eq_true.2 fun p hp => hc p (List.mem_range.1 hp)
theorem cr_fail {G : Gm} {L R : List Int} (h : askE G L = 0) (ha : areL G R = true) {p : Nat} (hp : p < G.own.length) (hc : crB G (gatN L) R p = false) : crE G L R = 7 := by
  unfold crE
  rw [if_pos h, if_pos ha, if_neg]
  rw [Bool.not_eq_true, List.all_eq_false]
  exact ⟨p, List.mem_range.2 hp, by rw [hc]; decide⟩
theorem cr_arg {G : Gm} {L R : List Int} (h : askE G L = 0) (ha : areL G R = false) : crE G L R = 1 := by
  unfold crE
  rw [if_pos h, if_neg (by rw [ha]; decide)]
theorem cr_bad {G : Gm} {L R : List Int} (h : ¬ askE G L = 0) : crE G L R = askE G L := if_neg h
theorem crB_at {G : Gm} {goal : Nat} {R : List Int} {p : Nat} {d : Int} (h : R[p]? = some d) : crB G goal R p = (if d = 0 then goal.testBit p else if 0 < d then fcB G 0 (numN R (d - 1)) p else true) := by
  have e : R.getD p (-1) = d := by rw [List.getD_eq_getElem?_getD, h]; rfl
  unfold crB
  rw [e]
theorem before_next {f : Nat → Bool} {k : Nat} (ha : ∀ j, j < k → f j = true) (h : f k = true) : ∀ j, j < k + 1 → f j = true := fun j hj => by
  rcases Nat.lt_or_ge j k with h1 | h1
  · exact ha j h1
  · obtain rfl : j = k := by omega
    exact h
theorem num_lt {R : List Int} (h : R.length ≤ 16) (m : Int) : numN R m < 4294967296 := by
  have h1 : numN R m < 2 ^ R.length := bitK_lt _ _
  have h2 : 2 ^ R.length ≤ 2 ^ 16 := Nat.pow_le_pow_right (by omega) h
  omega
set_option maxRecDepth 4000 in
set_option maxHeartbeats 3200000 in
theorem CheckRanks_any (g : Gv) (A : Option Addr) (c : Nat) (L : List Int) (A2 : Option Addr) (c2 : Nat) (R : List Int) (w : World) (hr : RdG w w.heap.size g) (hf : Gfit g) (hq : Rd w w.heap.size A (ints L)) (hn : L.length ≤ 9223372036854775807) (hq2 : Rd w w.heap.size A2 (ints R)) (hn2 : R.length ≤ 9223372036854775807) :
    Calls Try.prog 30 #[g.v, .slice A L.length c, .slice A2 R.length c2] w fun e w' => e = .returned (.int .i64 (crE g.G L R)) ∧ Below w.heap.size w w' := by
  obtain ⟨W, hW, p0, p1, hz, hb, hr1⟩ := box_game w g 25 hr
  have R1 := Lib.hid (hq.up hb)
  have S1 := Lib.hid (hq2.up hb)
  have RG := Lib.hid hr1
  have B0 := Lib.hid hb
  obtain ⟨W2, hW2, hb2, HC⟩ := ask_one g A c L W hr1 hf R1.out hn
  have B2 := Lib.hid (hb.trans (hb2.mono hb.size))
  have HCh := Lib.hid HC
  have RG2 := Lib.hid (hr1.up hb2)
  have R2 := Lib.hid (R1.out.up hb2)
  have S2 := Lib.hid (S1.out.up hb2)
  have q0 := cell_keep p0 hb2 hz
  have q1 := cell_keep p1 hb2 hz
  have hz2 : w.heap.size < W2.heap.size := Nat.lt_of_lt_of_le hz hb2.size
  by_cases hE : askE g.G L = 0
  · obtain ⟨hG0, hs⟩ := askE_zero hE
    have h16 : g.own.length ≤ 16 := (gE_zero hG0).le
    rw [hE] at HCh
    have HAr := Lib.hid (fun w h q => areRanks_any g A2 c2 R w h hf q hn2)
    cases ha : areL g.G R
    · have HE := Lib.hid (cr_arg (R := R) hE ha)
      rw [ha] at HAr
      clear hr hf hq hn hq2 hn2 hb hr1 hb2 HC hE hG0 hs ha h16
      unfold Gv.v at HCh HAr ⊢
      generalize g.G = G at *
      obtain ⟨A0, c0, own, A1, c1, rs⟩ := g
      simp only at hW p0 p1 q0 q1 HCh HAr ⊢
      go_enter Try.func30, Try.ntmps30
      go_wp2_with fail
      refine (HCh.out).mono ?_
      rintro e w3 ⟨rfl, hb⟩
      have B3 := Lib.hid (B2.out.trans (hb.mono B2.out.size))
      have RG3 := Lib.hid (RG2.out.up hb)
      have S3 := Lib.hid (S2.out.up hb)
      have r0 := cell_keep q0 hb hz2
      have r1 := cell_keep q1 hb hz2
      clear hb q0 q1 p0 p1 hW hW2
      go_wp2_with fail
      refine (HAr.out w3 RG3.out S3.out).mono ?_
      rintro e w4 ⟨rfl, hb⟩
      have B4 := Lib.hid (B3.out.trans (hb.mono B3.out.size))
      clear hb
      go_wp2_with fail
      go_ret
      exact ⟨by rw [HE.out]; rfl, B4.out⟩
    · have hRl : R.length = g.own.length := (areL_iff.1 ha).2
      have HRng := Lib.hid (areL_iff.1 ha).1
      have HEnd := Lib.hid (fun h => cr_end (R := R) hE ha h)
      have HFl := Lib.hid (fun p hp h => cr_fail (R := R) hE ha (p := p) hp h)
      have HAt := Lib.hid (fun p d h => crB_at (G := g.G) (goal := gatN L) (R := R) (p := p) (d := d) h)
      have HG := Lib.hid (fun w h => gather_any A c L g.own.length w h hn hs (by omega))
      have HNm := Lib.hid (fun m w h => numbered_any A2 c2 R m w h (by omega))
      have HFo := Lib.hid (fun m w h => forced_any g 0 (numN R m) w h hf hG0 (num_lt (by omega) m))
      have HFl32 := Lib.hid (fun m => (Nat.lt_of_lt_of_le (fcN_lt g.G 0 (numN R m)) (show 2 ^ g.own.length ≤ 4294967296 from Nat.le_trans (Nat.pow_le_pow_right (by omega) h16) (show 2 ^ 16 ≤ 4294967296 by decide))))
      have HFa := Lib.hid (fun m p (hp : p < g.own.length) => fcN_at (G := g.G) (b := 0) (S := numN R m) hp)
      have e : g.G.own = g.own := rfl
      rw [e] at HEnd HFl
      rw [ha] at HAr
      have hRl16 : R.length ≤ 16 := by omega
      have HRl := Lib.hid hRl
      clear hr hf hq hn hq2 hn2 hb hr1 hb2 HC hE hG0 hs ha h16 e hRl
      have hgl : gatN L < 4294967296 := bit32 _
      unfold Gv.v at HCh HAr HFo ⊢
      generalize g.G = G at *
      obtain ⟨A0, c0, own, A1, c1, rs⟩ := g
      simp only at hW p0 p1 q0 q1 HCh HAr HFo HEnd HFl HFa HG HRl ⊢
      go_enter Try.func30, Try.ntmps30
      go_wp2_with fail
      refine (HCh.out).mono ?_
      rintro e w3 ⟨rfl, hb⟩
      have B3 := Lib.hid (B2.out.trans (hb.mono B2.out.size))
      have RG3 := Lib.hid (RG2.out.up hb)
      have R3 := Lib.hid (R2.out.up hb)
      have S3 := Lib.hid (S2.out.up hb)
      have r0 := cell_keep q0 hb hz2
      have r1 := cell_keep q1 hb hz2
      have hz3 : w.heap.size < w3.heap.size := Nat.lt_of_lt_of_le hz2 hb.size
      clear hb q0 q1 p0 p1 hW hW2
      go_wp2_with fail
      refine (HAr.out w3 RG3.out S3.out).mono ?_
      rintro e w4 ⟨rfl, hb⟩
      have B4 := Lib.hid (B3.out.trans (hb.mono B3.out.size))
      have RG4 := Lib.hid (RG3.out.up hb)
      have R4 := Lib.hid (R3.out.up hb)
      have S4 := Lib.hid (S3.out.up hb)
      have s0 := cell_keep r0 hb hz3
      have s1 := cell_keep r1 hb hz3
      have hz4 : w.heap.size < w4.heap.size := Nat.lt_of_lt_of_le hz3 hb.size
      clear hb r0 r1
      go_wp2_with fail
      refine (HG.out w4 R4.out).mono ?_
      rintro e w' ⟨rfl, rfl⟩
      go_wp2_with fail
      go_loopw [26] (fun i wr => ∃ k : Nat, k ≤ R.length ∧ i = .int .i64 k ∧ (∀ j, j < k → crB G (gatN L) R j = true) ∧ Below w4.heap.size w4 wr) (fun i _ => R.length - (intOf i).toNat)
      case atStart => exact ⟨0, by omega, rfl, fun j hj => by omega, Below.refl _ _⟩
      case round =>
        obtain ⟨k, hk, rfl, hall, hb⟩ := hrel
        have HA := Lib.hid hall
        have BW := Lib.hid hb
        have S5 := Lib.hid (S4.out.up hb)
        have t0 := cell_keep s0 hb hz4
        have t1 := cell_keep s1 hb hz4
        have RG5 := Lib.hid (RG4.out.up hb)
        clear hall hb
        by_cases hlt : k < R.length
        · obtain ⟨b, o, d, rfl, hd, hc⟩ := S5.out.int k hlt
          have hcr := HAt.out k d hd.out
          have HFlk := Lib.hid (HFl.out k (by have := HRl.out; omega))
          have hk32 : k < 32 := by omega
          by_cases h0 : d = 0
          · subst h0
            rw [if_pos rfl] at hcr
            have HH := Lib.hid (fun w => has_any (gatN L) k w hgl hk32)
            cases hq : (gatN L).testBit k
            · have HE := Lib.hid (HFlk.out (by rw [hcr, hq]))
              rw [hq] at HH
              clear hcr hq
              generalize gatN L = T at *
              go_wp2_with fail
              refine (HH.out wr).mono ?_
              rintro e w' ⟨rfl, rfl⟩
              go_wp2_with fail
              go_ret
              exact ⟨by rw [HE.out]; rfl, B4.out.trans (BW.out.mono B4.out.size)⟩
            · have HN := Lib.hid (before_next HA.out (by rw [hcr, hq]))
              rw [hq] at HH
              clear hcr hq
              go_wp2_with fail
              refine (HH.out wr).mono ?_
              rintro e w' ⟨rfl, rfl⟩
              have g0 := fun d os => cell_regrown t0 d os
              have g1 := fun d os => cell_regrown t1 d os
              go_wp2_with fail
              refine wp_region_quiet_below (by kernel_rfl) (by kernel_rfl) ?_
              repeat (go_big_quiet_step (fail))
              refine wpQuiet_nil ?_
              intro _ hw'
              obtain ⟨⟨dq, osq⟩, hw''⟩ := hw'
              subst hw''
              have B6 := Lib.hid (BW.out.trans ((below_regrown wr dq osq).mono BW.out.size))
              go_wp2_with fail
              go_roundw
              case rel => exact ⟨k + 1, by omega, by go_num, HN.out, B6.out⟩
              case measure => simp [intOf]; omega
          · have e0 : (d == 0) = false := by simpa using h0
            rw [if_neg h0] at hcr
            by_cases h1 : 0 < d
            · rw [if_pos h1] at hcr
              have e1 : decide (0 < d) = true := by simpa using h1
              have ew : IntKind.i64.wrap (d - 1) = d - 1 := by have := HRng.out d (List.mem_of_getElem? hd.out); rw [IntKind.wrap_i64]; omega
              have HNk := Lib.hid (fun w h => HNm.out (d - 1) w h)
              have HFk := Lib.hid (fun w h => HFo.out (d - 1) w h)
              have HHk := Lib.hid (fun w => has_any (fcN G 0 (numN R (d - 1))) k w (HFl32.out _) hk32)
              have hfa := HFa.out (d - 1) k (by have := HRl.out; omega)
              rw [← hfa] at hcr
              clear hfa
              obtain ⟨X, hX⟩ : ∃ X, fcN G 0 (numN R (d - 1)) = X := ⟨_, rfl⟩
              rw [hX] at HFk HHk hcr
              obtain ⟨Z, hZ⟩ : ∃ Z, numN R (d - 1) = Z := ⟨_, rfl⟩
              rw [hZ] at HNk HFk
              clear hX hZ
              have g0 := fun d os => cell_regrown t0 d os
              have g1 := fun d os => cell_regrown t1 d os
              have hb1 := h1
              clear h1 h0
              cases hq : X.testBit k
              · have HE := Lib.hid (HFlk.out (by rw [hcr, hq]))
                rw [hq] at HHk
                clear hcr hq
                go_wp2_with fail
                refine wp_region_quiet_below (by kernel_rfl) (by kernel_rfl) ?_
                repeat (go_big_quiet_step (first | (with_reducible exact Calls.regrown_of (sb (HNk.out _ (S5.out.up (below_regrown _ _ _))))) | (with_reducible exact Calls.regrown_of (HFk.out _ (RG5.out.up (below_regrown _ _ _)))) | (with_reducible exact Calls.regrown_of (sb (HHk.out _)))))
                refine wpQuiet_nil ?_
                intro _ hw'
                obtain ⟨⟨dq, osq⟩, hw''⟩ := hw'
                subst hw''
                have B6 := Lib.hid (BW.out.trans ((below_regrown wr dq osq).mono BW.out.size))
                go_wp2_with fail
                go_ret
                exact ⟨by rw [HE.out]; rfl, B4.out.trans (B6.out.mono B4.out.size)⟩
              · have HN := Lib.hid (before_next HA.out (by rw [hcr, hq]))
                rw [hq] at HHk
                clear hcr hq
                go_wp2_with fail
                refine wp_region_quiet_below (by kernel_rfl) (by kernel_rfl) ?_
                repeat (go_big_quiet_step (first | (with_reducible exact Calls.regrown_of (sb (HNk.out _ (S5.out.up (below_regrown _ _ _))))) | (with_reducible exact Calls.regrown_of (HFk.out _ (RG5.out.up (below_regrown _ _ _)))) | (with_reducible exact Calls.regrown_of (sb (HHk.out _)))))
                refine wpQuiet_nil ?_
                intro _ hw'
                obtain ⟨⟨dq, osq⟩, hw''⟩ := hw'
                subst hw''
                have B6 := Lib.hid (BW.out.trans ((below_regrown wr dq osq).mono BW.out.size))
                go_wp2_with fail
                go_roundw
                case rel => exact ⟨k + 1, by omega, by go_num, HN.out, B6.out⟩
                case measure => simp [intOf]; omega
            · rw [if_neg h1] at hcr
              have e1 : decide (0 < d) = false := by simpa using h1
              have HN := Lib.hid (before_next HA.out hcr)
              have g0 := fun d os => cell_regrown t0 d os
              have g1 := fun d os => cell_regrown t1 d os
              clear hcr h1 h0
              go_wp2_with fail
              refine wp_region_quiet_below (by kernel_rfl) (by kernel_rfl) ?_
              repeat (go_big_quiet_step (fail))
              refine wpQuiet_nil ?_
              intro _ hw'
              obtain ⟨⟨dq, osq⟩, hw''⟩ := hw'
              subst hw''
              have B6 := Lib.hid (BW.out.trans ((below_regrown wr dq osq).mono BW.out.size))
              go_wp2_with fail
              go_roundw
              case rel => exact ⟨k + 1, by omega, by go_num, HN.out, B6.out⟩
              case measure => simp [intOf]; omega
        · have hks : k = R.length := by omega
          have HE := Lib.hid (HEnd.out (by rw [← HRl.out, ← hks]; exact HA.out))
          have HKs := Lib.hid hks
          clear hks
          have e3 : decide ((k : Int) < (R.length : Int)) = false := by rw [decide_eq_false_iff_not]; omega
          have e4 : decide (k < R.length) = false := by rw [decide_eq_false_iff_not]; exact hlt
          go_wp2_with fail
          go_ret
          exact ⟨by rw [HE.out]; rfl, B4.out.trans (BW.out.mono B4.out.size)⟩
  · have HE := Lib.hid (cr_bad (R := R) hE)
    generalize askE g.G L = E at *
    have hb1 : (E == 0) = false := by simpa using hE
    have hb2' : (E != 0) = true := by simpa using hE
    clear hr hf hq hn hq2 hn2 hb hr1 hb2 HC hE
    unfold Gv.v at HCh ⊢
    generalize g.G = G at *
    obtain ⟨A0, c0, own, A1, c1, rs⟩ := g
    simp only at hW p0 p1 q0 q1 HCh ⊢
    go_enter Try.func30, Try.ntmps30
    go_wp2_with fail
    refine (HCh.out).mono ?_
    rintro e w3 ⟨rfl, hb⟩
    have B3 := Lib.hid (B2.out.trans (hb.mono B2.out.size))
    clear hb
    go_wp2_with fail
    go_ret
    exact ⟨by rw [HE.out]; rfl, B3.out⟩
end Go.Proofs.Ytibcjkpfpiamkaa

/-
  Lists that prove wins: the walk of CheckRanks of the reference. Conditions: the game and the lists can be read.
-/
import Derived.Test.YtibcjkpfpiamkaaLu16
namespace Go.Proofs.Ytibcjkpfpiamkaa
open Go.RowKit
set_option linter.unusedVariables false

/-- How many of the first k moves lead to smaller numbers. -/
def smC (R : List Int) (m : Int) (row : List Int) (k : Nat) : Nat := ((row.take k).filter fun d => inR m (R.getD d.toNat (-1))).length
theorem smC_next {R : List Int} {m : Int} {row : List Int} {k : Nat} {d : Int} (h : row[k]? = some d) : smC R m row (k + 1) = smC R m row k + if inR m (R.getD d.toNat (-1)) then 1 else 0 := by
  unfold smC
  rw [List.take_add_one, h, List.filter_append, List.length_append]
  have e : (some d).toList = [d] := rfl
  rw [e, List.filter_cons, List.filter_nil]
  split <;> rfl
theorem smC_le (R : List Int) (m : Int) (row : List Int) (k : Nat) : smC R m row k ≤ k := by
  unfold smC
  have h1 := List.length_filter_le (fun d : Int => inR m (R.getD d.toNat (-1))) (row.take k)
  have h2 : (row.take k).length ≤ k := by simp; omega
  omega
theorem smC_hit (R : List Int) (m : Int) (row : List Int) : (smC R m row row.length == 0) = !hit (numN R m) row := by
  unfold smC hit
  rw [List.take_length]
  have e : (row.any fun d => (numN R m).testBit d.toNat) = row.any fun d => inR m (R.getD d.toNat (-1)) := by
    congr 1
    funext d
    rw [Bool.eq_iff_iff, num_at, inR_iff]
  rw [e, Bool.eq_iff_iff, beq_iff_eq, Bool.not_eq_true', List.any_eq_false, List.length_eq_zero_iff, List.filter_eq_nil_iff]
theorem smC_inn (R : List Int) (m : Int) (row : List Int) : decide (smC R m row row.length < row.length) = !inn (numN R m) row := by
  unfold smC inn
  rw [List.take_length]
  have e : (row.all fun d => (numN R m).testBit d.toNat) = row.all fun d => inR m (R.getD d.toNat (-1)) := by
    congr 1
    funext d
    rw [Bool.eq_iff_iff, num_at, inR_iff]
  rw [e, Bool.eq_iff_iff, decide_eq_true_eq, Bool.not_eq_true', List.all_eq_false]
  constructor
  · intro h
    apply Classical.byContradiction
    intro hno
    have : row.filter (fun d => inR m (R.getD d.toNat (-1))) = row := List.filter_eq_self.2 fun d hd => by
      cases hb : inR m (R.getD d.toNat (-1))
      · exact absurd ⟨d, hd, by rw [hb]; decide⟩ hno
      · rfl
    rw [this] at h
    omega
  · rintro ⟨d, hd, hb⟩
    rcases Nat.lt_or_ge (row.filter fun d => inR m (R.getD d.toNat (-1))).length row.length with h | h
    · exact h
    · exfalso
      have h1 := List.length_filter_le (fun d : Int => inR m (R.getD d.toNat (-1))) row
      have : row.filter (fun d => inR m (R.getD d.toNat (-1))) = row := List.filter_sublist.eq_of_length (by omega)
      rw [List.filter_eq_self] at this
      exact hb (this d hd)
theorem shr_bit0 (n i : Nat) (hn : n < 9223372036854775808) : (bits .and .i64 ((n : Int) / 2 ^ i) 1 == 0) = !n.testBit i := by
  have h := bit_div (n := n) (j := i)
  have e : (n : Int) / 2 ^ i = ((n / 2 ^ i : Nat) : Int) := by simp
  have hd : n / 2 ^ i ≤ n := Nat.div_le_self _ _
  rw [e, show (1 : Int) = ((1 : Nat) : Int) from rfl, i64_and_nat _ _ (by omega) (by decide), Nat.and_one_is_mod, h]
  cases n.testBit i <;> rfl
theorem areB_in (d : Int) : areB d = inW (-1) 16 d := rfl
set_option maxRecDepth 4000 in
set_option maxHeartbeats 3200000 in
theorem rCheckRanks_any (g : Gv) (A : Option Addr) (c : Nat) (L : List Int) (A2 : Option Addr) (c2 : Nat) (R : List Int) (w : World) (hr : RdG w w.heap.size g) (hf : Gfit g) (hq : Rd w w.heap.size A (ints L)) (hn : L.length ≤ 9223372036854775807) (hq2 : Rd w w.heap.size A2 (ints R)) (hn2 : R.length ≤ 9223372036854775807) :
    Calls Try.prog 31 #[g.v, .slice A L.length c, .slice A2 R.length c2] w fun e w' => e = .returned (.int .i64 (crE g.G L R)) ∧ Below w.heap.size w w' := by
  obtain ⟨W, hW, p0, p1, hz, hb, hr1⟩ := box_game w g 25 hr
  have R1 := Lib.hid (hq.up hb)
  have S1 := Lib.hid (hq2.up hb)
  have RG := Lib.hid hr1
  have B0 := Lib.hid hb
  have HCh := Lib.hid (asked_any g A c L W hr1 hf R1.out hn)
  have hn0 : g.own.length ≤ 9223372036854775807 := by have := hf.n0; have := hf.m0; unfold maxLen at this; omega
  by_cases hE : askE g.G L = 0
  · obtain ⟨hG0, hs⟩ := askE_zero hE
    have h16 : g.own.length ≤ 16 := (gE_zero hG0).le
    rw [hE] at HCh
    have e : g.G.own = g.own := rfl
    by_cases hRl : R.length = g.own.length
    · have HArg := Lib.hid (fun h => cr_arg (R := R) hE h)
      have HBd := Lib.hid (fun k d h hb => areL_bad (G := g.G) (R := R) (k := k) (d := d) h hb)
      have HAr := Lib.hid (fun h => (areL_end (G := g.G) (R := R) h).trans (show decide (R.length = g.G.own.length) = true from decide_eq_true hRl))
      have HEnd := Lib.hid (fun ha h => cr_end (R := R) hE ha h)
      have HFl := Lib.hid (fun ha p hp h => cr_fail (R := R) hE ha (p := p) hp h)
      have HAt := Lib.hid (fun p d h => crB_at (G := g.G) (goal := gatN L) (R := R) (p := p) (d := d) h)
      have HRng := Lib.hid (fun ha => (areL_iff (G := g.G) (R := R)).1 ha)
      have HG := Lib.hid (fun w h => bits_any A c L g.own.length w h hn hs (by omega))
      have HI := Lib.hid (fun d lo hi w => within_any d lo hi w)
      obtain ⟨W', hl⟩ := laid_of w g hr hf hG0
      obtain rfl : W' = W := hl.hW.symm.trans hW
      have LA := Lib.hid hl
      rw [e] at HEnd HFl
      have hgl : gatN L < 4294967296 := bit32 _
      have HRl := Lib.hid hRl
      have hR16 : R.length ≤ 16 := by omega
      clear hr hf hq hn hq2 hn2 hb hr1 hE hG0 hs h16 e hRl hl hn0
      unfold Gv.v at HCh ⊢
      generalize g.G = G at *
      obtain ⟨A0, c0, own, A1, c1, rs⟩ := g
      simp only at hW p0 p1 HCh HEnd HFl HG HRl LA ⊢
      have hn16 := LA.out.le
      go_enter Try.func31, Try.ntmps31
      go_wp2_with fail
      refine (HCh.out).mono ?_
      rintro e w3 ⟨rfl, hb⟩
      have B3 := Lib.hid (B0.out.trans (hb.mono B0.out.size))
      have R3 := Lib.hid (R1.out.up hb)
      have S3 := Lib.hid (S1.out.up hb)
      have r0 := cell_keep p0 hb hz
      have r1 := cell_keep p1 hb hz
      have O3 := Lib.hid (LA.out.r0.up hb)
      have M3 := Lib.hid (LA.out.r1.up hb)
      clear hb p0 p1 hW
      have e3 : ((R.length : Int) != (own.length : Int)) = false := by rw [HRl.out]; simp
      have e4 : (R.length != own.length) = false := by rw [HRl.out]; simp
      go_wp2_with fail
      clear e3 e4
      go_loopw [8] (fun i wr => ∃ k : Nat, k ≤ R.length ∧ i = .int .i64 k ∧ (∀ (j : Nat) d, j < k → R[j]? = some d → areB d = true) ∧ wr = w3) (fun i _ => R.length - (intOf i).toNat)
      case atStart => exact ⟨0, by omega, rfl, fun j d hj => by omega, rfl⟩
      case round =>
        obtain ⟨k, hk, rfl, hall, rfl⟩ := hrel
        have HA := Lib.hid hall
        clear hall
        by_cases hlt : k < R.length
        · obtain ⟨b, o, d, rfl, hd, hc⟩ := S3.out.int k hlt
          have HQ := Lib.hid (fun w => HI.out d (-1) 16 w)
          rw [← areB_in] at HQ
          cases hq : areB d
          · have HE := Lib.hid (HArg.out (HBd.out k d hd.out hq))
            rw [hq] at HQ
            clear hq
            go_wp2_with fail
            refine (HQ.out wr).mono ?_
            rintro e w' ⟨rfl, rfl⟩
            go_wp2_with fail
            go_ret
            exact ⟨by rw [HE.out]; rfl, B3.out⟩
          · have HN := Lib.hid (each_next (p := areB) hd.out hq HA.out)
            rw [hq] at HQ
            clear hq
            go_wp2_with fail
            refine (HQ.out wr).mono ?_
            rintro e w' ⟨rfl, rfl⟩
            go_wp2_with fail
            go_roundw
            case rel => exact ⟨k + 1, by omega, by go_num, HN.out, by first | rfl | trivial⟩
            case measure => simp [intOf]; omega
        · have hks : k = R.length := by omega
          have ha := HAr.out (by rw [← hks]; exact HA.out)
          have HE2 := Lib.hid (HEnd.out ha)
          have HF2 := Lib.hid (HFl.out ha)
          have HR2 := Lib.hid (HRng.out ha).1
          have b3 : decide ((k : Int) < (R.length : Int)) = false := by rw [decide_eq_false_iff_not]; omega
          have b4 : decide (k < R.length) = false := by rw [decide_eq_false_iff_not]; exact hlt
          clear HEnd HFl HRng HAr HArg HBd HA ha hks
          go_wp2_with fail
          clear b3 b4 hlt
          go_loopw [9] (fun i wr2 => ∃ (k : Nat) (m : Nat), k ≤ R.length ∧ i = .int .i64 k ∧ (∀ j, j < k → crB G (gatN L) R j = true) ∧ wr2 = wr.drewN m) (fun i _ => R.length - (intOf i).toNat)
          case atStart => exact ⟨0, 0, by omega, rfl, fun j hj => by omega, rfl⟩
          case round =>
            obtain ⟨p, m, hp, rfl, hall, rfl⟩ := hrel
            have HA := Lib.hid hall
            clear hall
            by_cases hlt : p < R.length
            · obtain ⟨b, o, d, rfl, hd, hc⟩ := S3.out.int p hlt
              have hcr := HAt.out p d hd.out
              have HFp := Lib.hid (HF2.out p (by have := HRl.out; omega))
              have hdr := HR2.out d (List.mem_of_getElem? hd.out)
              obtain ⟨bo, oo, dw, hA0, hdw, hcw⟩ := O3.out.int p (by have := HRl.out; omega)
              obtain ⟨bm, om, A', c', l, hA1, hx, hc', hl⟩ := M3.out.row p (by have := LA.out.len; have := HRl.out; omega)
              subst hA0 hA1
              have hkr : (p : Int) < (rs.length : Int) := by have := LA.out.len; have := HRl.out; omega
              have hkr2 : p < rs.length := by have := LA.out.len; have := HRl.out; omega
              have hko : (p : Int) < (own.length : Int) := by have := HRl.out; omega
              have hko2 : p < own.length := by have := HRl.out; omega
              have hset := LA.out.set p _ _ _ hx.out
              have hll := LA.out.fit _ (List.mem_of_getElem? hx.out)
              simp only at hll
              have hwho := LA.out.who p dw hdw.out
              have hfc := LA.out.fc p _ _ _ dw 0 (numN R (d - 1)) hx.out hdw.out
              have HSet := Lib.hid hset
              have ew : IntKind.i64.wrap (d - 1) = d - 1 := by rw [IntKind.wrap_i64]; omega
              have b0 : (0 : Int) ≤ (p : Int) := by omega
              have b1 : (p : Int) < 64 := by omega
              have eg := shr_bit0 (gatN L) p (by omega)
              have HNext := Lib.hid (fun h => before_next HA.out h)
              clear hset
              by_cases h0 : d = 0
              · rw [if_pos h0] at hcr
                have e0 : (d == 0) = true := by simpa using h0
                have e1 : decide (0 < d) = false := by rw [decide_eq_false_iff_not]; omega
                have RL := Lib.hid (show Rd (wr.drewN m) (wr.drewN m).heap.size A (ints L) from R3.out)
                clear h0 hfc hwho
                cases hq : (gatN L).testBit p
                · have HE := Lib.hid (HFp.out (by rw [hcr, hq]))
                  rw [hq] at eg
                  clear hcr hq
                  go_wp2_with fail
                  refine (HG.out _ RL.out).mono ?_
                  rintro e w' ⟨rfl, rfl⟩
                  go_wp2_with fail
                  go_ret
                  exact ⟨by rw [HE.out]; rfl, bdN B3.out _⟩
                · have HN := Lib.hid (HNext.out (by rw [hcr, hq]))
                  rw [hq] at eg
                  clear hcr hq
                  go_wp2_with fail
                  refine (HG.out _ RL.out).mono ?_
                  rintro e w' ⟨rfl, rfl⟩
                  go_wp2_with fail
                  go_loopw [10, 11] (fun v i wr3 => ∃ (q : Nat) (m' : Nat), q ≤ l.length ∧ i = .int .i64 q ∧ v = .int .i64 (smC R (d - 1) l q : Nat) ∧ wr3 = wr.drewN m') (fun _ i _ => l.length - (intOf i).toNat)
                  case atStart => exact ⟨0, _, by omega, rfl, rfl, rfl⟩
                  case round =>
                    obtain ⟨q, m', hq, rfl, rfl, rfl⟩ := hrel
                    by_cases hlt2 : q < l.length
                    · obtain ⟨bx, ox, x, rfl, hx2, hcx⟩ := hl.out.int q hlt2
                      have hxl := set_in HSet.out hx2.out
                      obtain ⟨n, rfl⟩ := Int.eq_ofNat_of_zero_le hxl.1
                      obtain ⟨by', oy, y, hby, hy, hcy⟩ := S3.out.int n (by have := HRl.out; omega)
                      cases hby
                      have c0 : (0 : Int) ≤ (n : Int) := by omega
                      have c1 : (n : Int) < (R.length : Int) := by have := HRl.out; omega
                      have c2' : (q : Int) < (l.length : Int) := by omega
                      have HQ := Lib.hid (fun w => HI.out y 0 (d - 1) w)
                      have HNx := Lib.hid ((smC_next (R := R) (m := d - 1) hx2.out).trans (show _ = smC R (d - 1) l q + if inW 0 (d - 1) y then 1 else 0 by rw [Int.toNat_natCast, List.getD_eq_getElem?_getD, hy.out]; rfl))
                      have hsl := smC_le R (d - 1) l q
                      generalize smC R (d - 1) l q = C at *
                      clear hxl
                      cases hin : inW 0 (d - 1) y
                      · rw [hin] at HQ HNx
                        clear hin
                        go_wp2_with fail
                        go_quiet ((go_at_call 56; exact qs (HQ.out _)))
                        go_wp2_with fail
                        go_roundw
                        case rel => exact ⟨q + 1, _, by omega, by go_num, by rw [HNx.out]; rfl, rfl⟩
                        case measure => simp [intOf]; omega
                      · rw [hin] at HQ HNx
                        clear hin
                        have ea : IntKind.i64.wrap ((C : Int) + 1) = (C : Int) + 1 := by rw [IntKind.wrap_i64]; omega
                        go_wp2_with fail
                        go_quiet ((go_at_call 56; exact qs (HQ.out _)))
                        go_wp2_with fail
                        go_roundw
                        case rel => exact ⟨q + 1, _, by omega, by go_num, by rw [HNx.out]; go_num, rfl⟩
                        case measure => simp [intOf]; omega
                    · have hqs : q = l.length := by omega
                      have d3 : decide ((q : Int) < (l.length : Int)) = false := by rw [decide_eq_false_iff_not]; omega
                      have d4 : decide (q < l.length) = false := by rw [decide_eq_false_iff_not]; exact hlt2
                      have h1 := smC_hit R (d - 1) l
                      have h2 := smC_inn R (d - 1) l
                      rw [← hqs] at h1 h2
                      have HQs := Lib.hid hqs
                      clear hqs hlt2
                      clear h1 h2
                      go_wp2_with fail
                      go_roundw
                      case rel => exact ⟨p + 1, _, by omega, by go_num, HN.out, rfl⟩
                      case measure => simp [intOf]; omega
              · have e0 : (d == 0) = false := by simpa using h0
                rw [if_neg h0] at hcr
                clear eg
                by_cases h1 : 0 < d
                · have e1 : decide (0 < d) = true := by simpa using h1
                  rw [if_pos h1] at hcr
                  clear h0 h1
                  go_wp2_with fail
                  go_loopw [10, 11] (fun v i wr3 => ∃ (q : Nat) (m' : Nat), q ≤ l.length ∧ i = .int .i64 q ∧ v = .int .i64 (smC R (d - 1) l q : Nat) ∧ wr3 = wr.drewN m') (fun _ i _ => l.length - (intOf i).toNat)
                  case atStart => exact ⟨0, _, by omega, rfl, rfl, rfl⟩
                  case round =>
                    obtain ⟨q, m', hq, rfl, rfl, rfl⟩ := hrel
                    by_cases hlt2 : q < l.length
                    · obtain ⟨bx, ox, x, rfl, hx2, hcx⟩ := hl.out.int q hlt2
                      have hxl := set_in HSet.out hx2.out
                      obtain ⟨n, rfl⟩ := Int.eq_ofNat_of_zero_le hxl.1
                      obtain ⟨by', oy, y, hby, hy, hcy⟩ := S3.out.int n (by have := HRl.out; omega)
                      cases hby
                      have c0 : (0 : Int) ≤ (n : Int) := by omega
                      have c1 : (n : Int) < (R.length : Int) := by have := HRl.out; omega
                      have c2' : (q : Int) < (l.length : Int) := by omega
                      have HQ := Lib.hid (fun w => HI.out y 0 (d - 1) w)
                      have HNx := Lib.hid ((smC_next (R := R) (m := d - 1) hx2.out).trans (show _ = smC R (d - 1) l q + if inW 0 (d - 1) y then 1 else 0 by rw [Int.toNat_natCast, List.getD_eq_getElem?_getD, hy.out]; rfl))
                      have hsl := smC_le R (d - 1) l q
                      generalize smC R (d - 1) l q = C at *
                      clear hxl
                      cases hin : inW 0 (d - 1) y
                      · rw [hin] at HQ HNx
                        clear hin
                        go_wp2_with fail
                        go_quiet ((go_at_call 56; exact qs (HQ.out _)))
                        go_wp2_with fail
                        go_roundw
                        case rel => exact ⟨q + 1, _, by omega, by go_num, by rw [HNx.out]; rfl, rfl⟩
                        case measure => simp [intOf]; omega
                      · rw [hin] at HQ HNx
                        clear hin
                        have ea : IntKind.i64.wrap ((C : Int) + 1) = (C : Int) + 1 := by rw [IntKind.wrap_i64]; omega
                        go_wp2_with fail
                        go_quiet ((go_at_call 56; exact qs (HQ.out _)))
                        go_wp2_with fail
                        go_roundw
                        case rel => exact ⟨q + 1, _, by omega, by go_num, by rw [HNx.out]; go_num, rfl⟩
                        case measure => simp [intOf]; omega
                    · have hqs : q = l.length := by omega
                      have d3 : decide ((q : Int) < (l.length : Int)) = false := by rw [decide_eq_false_iff_not]; omega
                      have d4 : decide (q < l.length) = false := by rw [decide_eq_false_iff_not]; exact hlt2
                      have h1 := smC_hit R (d - 1) l
                      have h2 := smC_inn R (d - 1) l
                      rw [← hqs] at h1 h2
                      have HQs := Lib.hid hqs
                      clear hqs hlt2
                      have k1 : (((smC R (d - 1) l q : Nat) : Int) == 0) = (smC R (d - 1) l q == 0) := by
                        rw [Bool.eq_iff_iff, beq_iff_eq, beq_iff_eq]; omega
                      have k2 : decide (((smC R (d - 1) l q : Nat) : Int) < (l.length : Int)) = decide (smC R (d - 1) l q < l.length) := by
                        rw [Bool.eq_iff_iff, decide_eq_true_eq, decide_eq_true_eq]; omega
                      have k3 : decide (smC R (d - 1) l q < l.length) = !inn (numN R (d - 1)) l := by rw [← h2]; congr 2; exact HQs.out.symm
                      rw [h1] at k1
                      rw [k3] at k2
                      clear h1 h2
                      generalize numN R (d - 1) = S at *
                      generalize smC R (d - 1) l q = C at *
                      rcases hwho with hw0 | hw1
                      · subst hw0
                        rw [if_pos rfl] at hfc
                        clear k2 k3
                        cases hh : hit S l
                        · have HE := Lib.hid (HFp.out (by rw [hcr, hfc, hh]))
                          rw [hh] at k1
                          clear hcr hfc hh
                          go_wp2_with fail
                          go_ret
                          exact ⟨by rw [HE.out]; rfl, bdN B3.out _⟩
                        · have HN := Lib.hid (HNext.out (by rw [hcr, hfc, hh]))
                          rw [hh] at k1
                          clear hcr hfc hh
                          go_wp2_with fail
                          go_roundw
                          case rel => exact ⟨p + 1, _, by omega, by go_num, HN.out, rfl⟩
                          case measure => simp [intOf]; omega
                      · subst hw1
                        rw [if_neg (by decide)] at hfc
                        clear k1
                        cases hh : inn S l
                        · have HE := Lib.hid (HFp.out (by rw [hcr, hfc, hh]))
                          rw [hh] at k2 k3
                          clear hcr hfc hh
                          go_wp2_with fail
                          go_ret
                          exact ⟨by rw [HE.out]; rfl, bdN B3.out _⟩
                        · have HN := Lib.hid (HNext.out (by rw [hcr, hfc, hh]))
                          rw [hh] at k2 k3
                          clear hcr hfc hh
                          go_wp2_with fail
                          go_roundw
                          case rel => exact ⟨p + 1, _, by omega, by go_num, HN.out, rfl⟩
                          case measure => simp [intOf]; omega
                · have e1 : decide (0 < d) = false := by simpa using h1
                  rw [if_neg h1] at hcr
                  have HN := Lib.hid (HNext.out hcr)
                  clear h0 h1 hfc hwho hcr
                  go_wp2_with fail
                  go_loopw [10, 11] (fun v i wr3 => ∃ (q : Nat) (m' : Nat), q ≤ l.length ∧ i = .int .i64 q ∧ v = .int .i64 (smC R (d - 1) l q : Nat) ∧ wr3 = wr.drewN m') (fun _ i _ => l.length - (intOf i).toNat)
                  case atStart => exact ⟨0, _, by omega, rfl, rfl, rfl⟩
                  case round =>
                    obtain ⟨q, m', hq, rfl, rfl, rfl⟩ := hrel
                    by_cases hlt2 : q < l.length
                    · obtain ⟨bx, ox, x, rfl, hx2, hcx⟩ := hl.out.int q hlt2
                      have hxl := set_in HSet.out hx2.out
                      obtain ⟨n, rfl⟩ := Int.eq_ofNat_of_zero_le hxl.1
                      obtain ⟨by', oy, y, hby, hy, hcy⟩ := S3.out.int n (by have := HRl.out; omega)
                      cases hby
                      have c0 : (0 : Int) ≤ (n : Int) := by omega
                      have c1 : (n : Int) < (R.length : Int) := by have := HRl.out; omega
                      have c2' : (q : Int) < (l.length : Int) := by omega
                      have HQ := Lib.hid (fun w => HI.out y 0 (d - 1) w)
                      have HNx := Lib.hid ((smC_next (R := R) (m := d - 1) hx2.out).trans (show _ = smC R (d - 1) l q + if inW 0 (d - 1) y then 1 else 0 by rw [Int.toNat_natCast, List.getD_eq_getElem?_getD, hy.out]; rfl))
                      have hsl := smC_le R (d - 1) l q
                      generalize smC R (d - 1) l q = C at *
                      clear hxl
                      cases hin : inW 0 (d - 1) y
                      · rw [hin] at HQ HNx
                        clear hin
                        go_wp2_with fail
                        go_quiet ((go_at_call 56; exact qs (HQ.out _)))
                        go_wp2_with fail
                        go_roundw
                        case rel => exact ⟨q + 1, _, by omega, by go_num, by rw [HNx.out]; rfl, rfl⟩
                        case measure => simp [intOf]; omega
                      · rw [hin] at HQ HNx
                        clear hin
                        have ea : IntKind.i64.wrap ((C : Int) + 1) = (C : Int) + 1 := by rw [IntKind.wrap_i64]; omega
                        go_wp2_with fail
                        go_quiet ((go_at_call 56; exact qs (HQ.out _)))
                        go_wp2_with fail
                        go_roundw
                        case rel => exact ⟨q + 1, _, by omega, by go_num, by rw [HNx.out]; go_num, rfl⟩
                        case measure => simp [intOf]; omega
                    · have hqs : q = l.length := by omega
                      have d3 : decide ((q : Int) < (l.length : Int)) = false := by rw [decide_eq_false_iff_not]; omega
                      have d4 : decide (q < l.length) = false := by rw [decide_eq_false_iff_not]; exact hlt2
                      have h1 := smC_hit R (d - 1) l
                      have h2 := smC_inn R (d - 1) l
                      rw [← hqs] at h1 h2
                      have HQs := Lib.hid hqs
                      clear hqs hlt2
                      clear h1 h2
                      go_wp2_with fail
                      go_roundw
                      case rel => exact ⟨p + 1, _, by omega, by go_num, HN.out, rfl⟩
                      case measure => simp [intOf]; omega
            · have hks : p = R.length := by omega
              have HE := Lib.hid (HE2.out (by rw [← HRl.out, ← hks]; exact HA.out))
              have b3 : decide ((p : Int) < (R.length : Int)) = false := by rw [decide_eq_false_iff_not]; omega
              have b4 : decide (p < R.length) = false := by rw [decide_eq_false_iff_not]; exact hlt
              clear hks
              go_wp2_with fail
              go_ret
              exact ⟨by rw [HE.out]; rfl, bdN B3.out _⟩
    · have HE := Lib.hid (cr_arg (R := R) hE (by unfold areL; rw [decide_eq_false (show ¬ R.length = g.G.own.length from hRl), Bool.and_false]))
      have e3 : ((R.length : Int) != (g.own.length : Int)) = true := by rw [bne_iff_ne]; omega
      have e4 : (R.length != g.own.length) = true := by rw [bne_iff_ne]; exact hRl
      clear hr hf hq hn hq2 hn2 hb hr1 hE hG0 hs h16 e hRl
      unfold Gv.v at HCh ⊢
      generalize g.G = G at *
      obtain ⟨A0, c0, own, A1, c1, rs⟩ := g
      simp only at hW p0 p1 HCh e3 e4 hn0 ⊢
      go_enter Try.func31, Try.ntmps31
      go_wp2_with fail
      refine (HCh.out).mono ?_
      rintro e w3 ⟨rfl, hb⟩
      have B3 := Lib.hid (B0.out.trans (hb.mono B0.out.size))
      have r0 := cell_keep p0 hb hz
      clear hb p0 p1 hW
      go_wp2_with fail
      go_ret
      exact ⟨by rw [HE.out]; rfl, B3.out⟩
  · have HE := Lib.hid (cr_bad (R := R) hE)
    generalize askE g.G L = E at *
    have hb1 : (E == 0) = false := by simpa using hE
    have hb2' : (E != 0) = true := by simpa using hE
    clear hr hf hq hn hq2 hn2 hb hr1 hE
    unfold Gv.v at HCh ⊢
    generalize g.G = G at *
    obtain ⟨A0, c0, own, A1, c1, rs⟩ := g
    simp only at hW p0 p1 HCh ⊢
    go_enter Try.func31, Try.ntmps31
    go_wp2_with fail
    refine (HCh.out).mono ?_
    rintro e w3 ⟨rfl, hb⟩
    have B3 := Lib.hid (B0.out.trans (hb.mono B0.out.size))
    clear hb
    go_wp2_with fail
    go_ret
    exact ⟨by rw [HE.out]; rfl, B3.out⟩
end Go.Proofs.Ytibcjkpfpiamkaa

/-
  Games: the walks of check, forced, every of package lure; of asked, before, all of the reference. Conditions: the game and the sets can be read.
-/
import Derived.Test.YtldepjpalhmpnaaLu4
namespace Go.Proofs.Ytldepjpalhmpnaa
open Go.RowKit
set_option linter.unusedVariables false

/-- The error of a game and of lists that are to be sets. -/
def chkE (G : Gm) (Ls : List (List Int)) : Int := if gE G = 0 then (if Ls.all (setL G.own.length) = true then 0 else 1) else gE G
theorem chkE_one (G : Gm) (L : List Int) : chkE G [L] = askE G L := by
  unfold chkE askE
  simp
theorem chkE_bad {G : Gm} {Ls : List (List Int)} (h : ¬ gE G = 0) : chkE G Ls = gE G := if_neg h
theorem chkE_no {G : Gm} {Ls : List (List Int)} (h : gE G = 0) {k : Nat} {L : List Int} (hk : Ls[k]? = some L) (hs : setL G.own.length L = false) : chkE G Ls = 1 := by
  unfold chkE
  rw [if_pos h, if_neg]
  rw [Bool.not_eq_true, List.all_eq_false]
  exact ⟨L, List.mem_of_getElem? hk, by rw [hs]; decide⟩
theorem chkE_yes {G : Gm} {Ls : List (List Int)} (h : gE G = 0) (hs : ∀ (k : Nat) L, k < Ls.length → Ls[k]? = some L → setL G.own.length L = true) : chkE G Ls = 0 := by
  unfold chkE
  rw [if_pos h, if_pos]
  refine List.all_eq_true.2 fun L hL => ?_
  obtain ⟨k, hk, he⟩ := List.getElem_of_mem hL
  exact hs k L hk (by rw [← he]; exact List.getElem?_eq_getElem hk)
theorem all_next {p : List Int → Bool} {Ls : List (List Int)} {k : Nat} {L : List Int} (hk : Ls[k]? = some L) (h : p L = true) (ha : ∀ (j : Nat) M, j < k → Ls[j]? = some M → p M = true) : ∀ (j : Nat) M, j < k + 1 → Ls[j]? = some M → p M = true := fun j M hj hM => by
  by_cases hjk : j = k
  · subst hjk
    obtain rfl := Option.some.inj (hk.symm.trans hM)
    exact h
  · exact ha j M (by omega) hM
set_option maxRecDepth 4000 in
set_option maxHeartbeats 800000 in
theorem check_any (g : Gv) (A2 : Option Addr) (c2 : Nat) (qs : List Rw) (w : World) (hr : RdG w w.heap.size g) (hf : Gfit g) (hq : RdR w w.heap.size A2 qs) (hql : ∀ r ∈ qs, r.l.length ≤ 9223372036854775807) (hq2 : qs.length ≤ 1000) :
    Calls Try.prog 19 #[g.v, .slice A2 qs.length c2] w fun e w' => e = .returned (.int .i64 (chkE g.G (qs.map (·.l)))) ∧ Below w.heap.size w w' := by
  obtain ⟨W, hW, p0, p1, hz, hb, hr1⟩ := box_game w g 25 hr
  have RG := Lib.hid hr1
  have HV := Lib.hid (fun w h => Validate_any g w h hf)
  have HSt := Lib.hid (fun A c (L : List Int) lim w h hn hl => isSet_any A c L lim w h hn hl)
  have R2 := Lib.hid (hq.up hb)
  have B0 := Lib.hid hb
  have HQ := Lib.hid hql
  obtain ⟨A0, c0, own, A1, c1, rs⟩ := g
  simp only at hW p0 p1
  have hn0 : own.length ≤ 9223372036854775807 := by have := hf.n0; have := hf.m0; unfold maxLen at this; simp only at *; omega
  unfold Gv.v at HV ⊢
  simp only at HV ⊢
  obtain ⟨G, hG⟩ : ∃ G, Gv.G ⟨A0, c0, own, A1, c1, rs⟩ = G := ⟨_, rfl⟩
  rw [hG] at HV ⊢
  have hGo : G.own = own := by rw [← hG]; rfl
  clear hr hr1 hb hf hq hql hG
  by_cases hE : gE G = 0
  · have HN := Lib.hid (fun k L h hs => chkE_no (Ls := qs.map (·.l)) (k := k) (L := L) hE h hs)
    have HY := Lib.hid (fun hs => chkE_yes (Ls := qs.map (·.l)) hE hs)
    rw [hE] at HV
    rw [hGo] at HN HY
    clear hGo hE
    go_enter Try.func19, Try.ntmps19
    go_wp2_with fail
    refine (HV.out W RG.out).mono ?_
    rintro e w1 ⟨rfl, hb⟩
    have B1 := Lib.hid hb
    have BB := Lib.hid (B0.out.trans (hb.mono B0.out.size))
    have R3 := Lib.hid (R2.out.up hb)
    have q0 := cell_keep p0 hb hz
    clear hb p0 p1 hW
    go_wp2_with fail
    go_loopw [15] (fun i wr => ∃ k : Nat, k ≤ qs.length ∧ i = .int .i64 k ∧ (∀ (j : Nat) M, j < k → (qs.map (·.l))[j]? = some M → setL own.length M = true) ∧ wr = w1) (fun i _ => qs.length - (intOf i).toNat)
    case atStart => exact ⟨0, by omega, rfl, fun j M hj => by omega, rfl⟩
    case round =>
      obtain ⟨k, hk, rfl, hall, rfl⟩ := hrel
      have HA := Lib.hid hall
      clear hall
      by_cases hlt : k < qs.length
      · obtain ⟨b', o', A', c', l, rfl, hx, hc', hl⟩ := R3.out.row k hlt
        have hxl : (qs.map (·.l))[k]? = some l := by rw [List.getElem?_map, hx.out]; rfl
        have hll := HQ.out _ (List.mem_of_getElem? hx.out)
        simp only at hll
        have HS := Lib.hid (fun w (h : Rd w w.heap.size A' (ints l)) => HSt.out A' c' l own.length w h hll (by omega))
        cases hs : setL own.length l
        · have HE := Lib.hid (HN.out k l hxl hs)
          rw [hs] at HS
          clear hs hxl
          go_wp2_with fail
          refine (HS.out _ hl.out).mono ?_
          rintro e w' ⟨rfl, rfl⟩
          go_wp2_with fail
          go_ret
          exact ⟨by rw [HE.out]; rfl, BB.out⟩
        · have HE := Lib.hid (all_next (p := setL own.length) hxl hs HA.out)
          rw [hs] at HS
          clear hs hxl
          go_wp2_with fail
          refine (HS.out _ hl.out).mono ?_
          rintro e w' ⟨rfl, rfl⟩
          go_wp2_with fail
          go_roundw
          case rel => exact ⟨k + 1, by omega, by go_num, HE.out, by first | rfl | trivial⟩
          case measure => simp [intOf]; omega
      · have hks : k = qs.length := by omega
        subst hks
        have HE := Lib.hid (HY.out (by rw [List.length_map]; exact HA.out))
        go_wp2_with fail
        go_ret
        exact ⟨by rw [HE.out]; rfl, BB.out⟩
  · have HE := Lib.hid (chkE_bad (Ls := qs.map (·.l)) hE)
    generalize gE G = E at *
    have hb1 : (E == 0) = false := by simpa using hE
    have hb2 : (E != 0) = true := by simpa using hE
    clear hE hGo
    go_enter Try.func19, Try.ntmps19
    go_wp2_with fail
    refine (HV.out W RG.out).mono ?_
    rintro e w1 ⟨rfl, hb⟩
    have B1 := Lib.hid (B0.out.trans (hb.mono B0.out.size))
    clear hb
    go_wp2_with fail
    go_ret
    exact ⟨by rw [HE.out]; rfl, B1.out⟩
/-! ### What is forced in one move -/
theorem bitK_yes {f : Nat → Bool} {k : Nat} (h : f k = true) : bitK f (k + 1) = bitK f k + 2 ^ k := by rw [bitK, if_pos h]
theorem bitK_no {f : Nat → Bool} {k : Nat} (h : f k = false) : bitK f (k + 1) = bitK f k := by rw [bitK, if_neg (by rw [h]; decide), Nat.add_zero]
theorem pow_lt31 {k : Nat} (h : k < 31) : 2 ^ (k + 1) ≤ 2147483648 := by
  have : 2 ^ (k + 1) ≤ 2 ^ 31 := Nat.pow_le_pow_right (by omega) (by omega)
  exact this
theorem or_u32 (f : Nat → Bool) {k : Nat} (hk : k < 31) (h : f k = true) : bits .or .u32 ((bitK f k : Nat) : Int) ((2 ^ k : Nat) : Int) = ((bitK f (k + 1) : Nat) : Int) := by
  have hx := bitK_lt f k
  have h1 := Nat.two_pow_add_eq_or_of_lt hx 1
  have h2 := pow_lt31 hk
  rw [Nat.pow_succ] at h2
  rw [Nat.mul_one] at h1
  rw [bitK_yes h, u32_or_nat _ _ (by omega) (by omega), Nat.or_comm, ← h1, Nat.add_comm]
theorem or_i64 (f : Nat → Bool) {k : Nat} (hk : k < 31) (h : f k = true) : bits .or .i64 ((bitK f k : Nat) : Int) ((2 ^ k : Nat) : Int) = ((bitK f (k + 1) : Nat) : Int) := by
  rw [bitK_yes h]
  exact or_bit (bitK_lt f k) (by omega)
theorem bitK_32 (f : Nat → Bool) {k : Nat} (hk : k ≤ 31) : bitK f k < 4294967296 := by
  have h1 := bitK_lt f k
  have h2 : 2 ^ k ≤ 2 ^ 31 := Nat.pow_le_pow_right (by omega) hk
  omega
theorem mt_hit {n : Nat} {S : Nat} {L : List Int} (hs : setL n L = true) (hn : n ≤ 32) : mtB (gatN L) S = hit S L := by
  unfold mtB hit
  rw [Bool.eq_iff_iff, Bool.not_eq_true', decide_eq_false_iff_not, List.any_eq_true]
  constructor
  · intro h
    obtain ⟨j, hj⟩ := Nat.exists_testBit_of_ne_zero h
    rw [Nat.testBit_and, Bool.and_eq_true, gat_at hs hn, memB_iff] at hj
    exact ⟨(j : Int), hj.1, by rw [Int.toNat_natCast]; exact hj.2⟩
  · rintro ⟨d, hd, h⟩ h0
    have h1 := set_mem hs hd
    have : (gatN L &&& S).testBit d.toNat = true := by
      rw [Nat.testBit_and, gat_at hs hn, memB_iff.2 (by rwa [show ((d.toNat : Nat) : Int) = d by omega]), h]
      rfl
    rw [h0] at this
    simp at this
theorem li_sub {x y : Nat} (hx : x < 4294967296) (hy : y < 4294967296) : liB x y = true ↔ sub x y := by
  unfold liB
  rw [decide_eq_true_eq]
  have hc : ∀ j, j < 32 → (4294967295 - y).testBit j = !y.testBit j := fun j hj => by
    rw [show (4294967295 - y) = 2 ^ 32 - (y + 1) by omega, Nat.testBit_two_pow_sub_succ hy]
    simp [hj]
  constructor
  · intro h j hj
    have hj32 := bit_in (n := 32) hx hj
    have h1 : (x &&& (4294967295 - y)).testBit j = false := by rw [h]; exact Nat.zero_testBit j
    rw [Nat.testBit_and, hj, hc j hj32, Bool.true_and] at h1
    simpa using h1
  · intro h
    apply Nat.eq_of_testBit_eq
    intro j
    rw [Nat.zero_testBit, Nat.testBit_and]
    cases hj : x.testBit j
    · rfl
    · rw [hc j (bit_in (n := 32) hx hj), h j hj]
      rfl
theorem li_inn {n S : Nat} {L : List Int} (hs : setL n L = true) (hn : n ≤ 32) (hS : S < 4294967296) : liB (gatN L) S = inn S L := by
  rw [Bool.eq_iff_iff, li_sub (show gatN L < 4294967296 from bit32 _) hS]
  unfold inn
  rw [List.all_eq_true]
  constructor
  · intro h d hd
    have h1 := set_mem hs hd
    refine h _ ?_
    rw [gat_at hs hn, memB_iff, show ((d.toNat : Nat) : Int) = d by omega]
    exact hd
  · intro h j hj
    rw [gat_at hs hn, memB_iff] at hj
    have := h _ hj
    rwa [Int.toNat_natCast] at this
theorem fcB_at {G : Gm} {b d : Int} {S k : Nat} {l : List Int} (hd : G.own[k]? = some d) (hl : G.row k = l) : fcB G b S k = (if d = b then hit S l else inn S l) := by
  unfold fcB
  rw [who_at hd, hl]
set_option maxRecDepth 4000 in
set_option maxHeartbeats 1600000 in
theorem forced_any (g : Gv) (b : Int) (S : Nat) (w : World) (hr : RdG w w.heap.size g) (hf : Gfit g) (hE : gE g.G = 0) (hS : S < 4294967296) :
    Calls Try.prog 26 #[g.v, .int .i64 b, .int .u32 S] w fun e w' => e = .returned (.int .u32 (fcN g.G b S : Nat)) ∧ Below w.heap.size w w' := by
  obtain ⟨W, hW, p0, p1, hz, hb, hr1⟩ := box_game w g 25 hr
  have HF := Lib.hid hf.rs
  obtain ⟨A0, c0, own, A1, c1, rs⟩ := g
  have R0 := Lib.hid (show Rd W W.heap.size A0 (ints own) from hr1.o)
  have R1 := Lib.hid (show RdR W W.heap.size A1 rs from hr1.r)
  have B0 := Lib.hid hb
  simp only at hW p0 p1
  unfold Gv.v
  simp only
  have H := gE_zero hE
  obtain ⟨G, hG⟩ : ∃ G, Gv.G ⟨A0, c0, own, A1, c1, rs⟩ = G := ⟨_, rfl⟩
  rw [hG] at H ⊢
  have hGo : G.own = own := by rw [← hG]; rfl
  have hGm : G.mv.length = rs.length := by rw [← hG]; simp [Gv.G]
  have HRow := Lib.hid (fun k A c l (h : rs[k]? = some ⟨A, c, l⟩) => (show G.row k = l by rw [← hG]; exact row_of h))
  have HLN := Lib.hid (show rs.length = own.length by rw [← hGm, ← hGo]; exact H.len)
  have hn16 : own.length ≤ 16 := by rw [← hGo]; exact H.le
  have HSet := Lib.hid (fun k (hk : k < own.length) => H.set (p := k) (by rw [hGo]; exact hk))
  have HK := Lib.hid (fun k d l (hd : own[k]? = some d) hl => fcB_at (G := G) (b := b) (S := S) (k := k) (d := d) (l := l) (by rw [hGo]; exact hd) hl)
  rw [hGo] at HSet
  have HE := Lib.hid (show fcN G b S = bitK (fcB G b S) own.length by unfold fcN; rw [hGo])
  clear hr hr1 hb hf hE H hGo hGm hG
  go_enter Try.func26, Try.ntmps26
  go_wp2_with fail
  clear hW
  go_loopw [7, 14] (fun v i wr => ∃ k : Nat, k ≤ own.length ∧ i = .int .i64 k ∧ v = .int .u32 (bitK (fcB G b S) k : Nat) ∧ wr = W) (fun _ i _ => own.length - (intOf i).toNat)
  case atStart => exact ⟨0, by omega, rfl, rfl, rfl⟩
  case round =>
    obtain ⟨k, hk, rfl, rfl, rfl⟩ := hrel
    by_cases hlt : k < own.length
    · obtain ⟨b', o, d, rfl, hd, hc⟩ := R0.out.int k hlt
      obtain ⟨b2, o', A', c', l, rfl, hx, hc', hl⟩ := R1.out.row k (by have := HLN.out; omega)
      have hkr : (k : Int) < (rs.length : Int) := by have := HLN.out; omega
      have hkr2 : k < rs.length := by have := HLN.out; omega
      have hrow := HRow.out k _ _ _ hx.out
      have hset : setL own.length l = true := by rw [← hrow]; exact HSet.out k hlt
      have hfc := HK.out k d l hd.out hrow
      have hll : l.length ≤ 9223372036854775807 := by have := HF.out _ (List.mem_of_getElem? hx.out); unfold maxLen at this; simp only at this; omega
      have HG := Lib.hid (fun w h => gather_any A' c' l own.length w h hll hset (by omega))
      have HM := Lib.hid (fun w => meets_any (gatN l) S w (bit32 _) hS)
      have HL := Lib.hid (fun w => liesIn_any (gatN l) S w (bit32 _) hS)
      rw [mt_hit hset (by omega)] at HM
      rw [li_inn hset (by omega) hS] at HL
      have hgl : gatN l < 4294967296 := bit32 _
      have HSh := Lib.hid (shl_u32 (k := k) (by omega))
      have HYes := Lib.hid (fun h => or_u32 (fcB G b S) (k := k) (by omega) h)
      have HNo := Lib.hid (fun h => bitK_no (f := fcB G b S) (k := k) h)
      have hbl := bitK_32 (fcB G b S) (k := k) (by omega)
      have b0 : (0 : Int) ≤ (k : Int) := by omega
      have b1 : (k : Int) < 32 := by omega
      clear hset hrow
      by_cases hdb : d = b
      · subst hdb
        rw [if_pos rfl] at hfc
        have e1 : (d == d) = true := beq_self_eq_true d
        have e2 : (d != d) = false := by simp
        cases hh : hit S l
        · rw [hh] at hfc HM
          have HN := Lib.hid (HNo.out hfc)
          clear hfc hh
          generalize bitK (fcB G d S) k = F at *
          generalize gatN l = T at *
          go_wp2_with fail
          refine (HG.out _ hl.out).mono ?_
          rintro e w' ⟨rfl, rfl⟩
          go_wp2_with fail
          refine (HM.out _).mono ?_
          rintro e w' ⟨rfl, rfl⟩
          go_wp2_with fail
          go_roundw
          case rel => exact ⟨k + 1, by omega, by go_num, by rw [HN.out], by first | rfl | trivial⟩
          case measure => simp [intOf]; omega
        · rw [hh] at hfc HM
          have HN := Lib.hid (HYes.out hfc)
          clear hfc hh
          generalize bitK (fcB G d S) k = F at *
          generalize gatN l = T at *
          go_wp2_with fail
          refine (HG.out _ hl.out).mono ?_
          rintro e w' ⟨rfl, rfl⟩
          go_wp2_with fail
          refine (HM.out _).mono ?_
          rintro e w' ⟨rfl, rfl⟩
          go_wp2_with fail
          go_roundw
          case rel => exact ⟨k + 1, by omega, by go_num, by rw [HSh.out, HN.out], by first | rfl | trivial⟩
          case measure => simp [intOf]; omega
      · rw [if_neg hdb] at hfc
        have e1 : (d == b) = false := by simpa using hdb
        have e2 : (d != b) = true := by simpa using hdb
        cases hh : inn S l
        · rw [hh] at hfc HL
          have HN := Lib.hid (HNo.out hfc)
          clear hfc hh hdb
          generalize bitK (fcB G b S) k = F at *
          generalize gatN l = T at *
          go_wp2_with fail
          refine (HG.out _ hl.out).mono ?_
          rintro e w' ⟨rfl, rfl⟩
          go_wp2_with fail
          refine (HL.out _).mono ?_
          rintro e w' ⟨rfl, rfl⟩
          go_wp2_with fail
          go_roundw
          case rel => exact ⟨k + 1, by omega, by go_num, by rw [HN.out], by first | rfl | trivial⟩
          case measure => simp [intOf]; omega
        · rw [hh] at hfc HL
          have HN := Lib.hid (HYes.out hfc)
          clear hfc hh hdb
          generalize bitK (fcB G b S) k = F at *
          generalize gatN l = T at *
          go_wp2_with fail
          refine (HG.out _ hl.out).mono ?_
          rintro e w' ⟨rfl, rfl⟩
          go_wp2_with fail
          refine (HL.out _).mono ?_
          rintro e w' ⟨rfl, rfl⟩
          go_wp2_with fail
          go_roundw
          case rel => exact ⟨k + 1, by omega, by go_num, by rw [HSh.out, HN.out], by first | rfl | trivial⟩
          case measure => simp [intOf]; omega
    · have hks : k = own.length := by omega
      subst hks
      go_wp2_with fail
      go_ret
      exact ⟨by rw [HE.out]; rfl, B0.out⟩
end Go.Proofs.Ytldepjpalhmpnaa

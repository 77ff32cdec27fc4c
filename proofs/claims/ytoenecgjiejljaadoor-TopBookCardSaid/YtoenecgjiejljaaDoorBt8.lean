/-
  Climbing a tree: the walk of the function inside Climb that calls itself, of Climb and CheckPage of both sides. Condition: the lists can be read.
-/
import Derived.Test.YtoenecgjiejljaaDoorBt7
import Derived.Laws.EntriesVeiled
namespace Go.Proofs.YtoenecgjiejljaaDoor
open Go.RowKit
set_option linter.unusedVariables false

set_option maxRecDepth 4000 in
set_option maxHeartbeats 4000000 in
theorem climb_any (leaf : Int) (bl bf : Nat) (hleaf : Sm1 leaf) : ∀ (n i q : Nat) (p : List Int) (A : Option Addr) (c : Nat) (w : World), 1 ≤ n → n ≤ 64 → i < n → p.length = q → q = dpN i n → q ≤ c → AllSm p →
    Rd w w.heap.size A (ints p) → w.cell? ⟨bl, 0, none⟩ = some (.int .i64 leaf) → w.cell? ⟨bf, 0, none⟩ = some (.func (.func 142) #[] #[.pointer (some ⟨bl, 0, none⟩), .pointer (some ⟨bf, 0, none⟩)]) →
    Calls Tryd.prog 142 #[.int .i64 i, .int .i64 n, .slice A q c, .pointer (some ⟨bl, 0, none⟩), .pointer (some ⟨bf, 0, none⟩)] w fun e w' => e = .returned (.int .i64 (clI leaf i n p)) ∧ ∃ m, w' = w.drewN m := by
  intro n
  induction n using Nat.strongRecOn with
  | _ n ih =>
    intro i q p A c w h1 h64 hin hpq hq hqc hsm hr c0 c1
    by_cases hn : n = 1
    · subst hn
      have HX := Lib.hid (show clI leaf i 1 p = leaf from cl_one (by omega))
      clear ih hr c1
      go_enter Tryd.func142, Tryd.ntmps142
      go_wp2_with fail
      go_ret
      exact ⟨by rw [HX.out]; rfl, 0, rfl⟩
    have e0 : ((n : Int) == 1) = false := beq_eq_false_iff_ne.2 (by omega)
    have e0' : (n == 1) = false := beq_eq_false_iff_ne.2 hn
    have hsp := sp_lt (n := n) (by omega)
    have HS := Lib.hid (split_any n w (by omega) h64)
    by_cases hi : i < spN n
    · have hdp : dpN i n = dpN i (spN n) + 1 := dp_left (by omega) (by omega)
      obtain ⟨d, hd⟩ : ∃ d, dpN i (spN n) = d := ⟨_, rfl⟩
      rw [hdp, hd] at hq
      obtain ⟨b, o, rfl⟩ := hr.some_ (by omega)
      obtain ⟨b2, o2, x, hb2, hx, cx⟩ := hr.int d (by omega)
      cases hb2
      have hd64 : d ≤ 64 := by rw [← hd]; exact Nat.le_trans (dp_le _ _) (by omega)
      have hsx := hsm x (List.mem_of_getElem? hx.out)
      have hgx := gI_get hx.out
      have HC := Lib.hid (fun m => ih (spN n) (by omega) i d (p.take d) (some ⟨b, o, none⟩) c (w.drewN m) (by omega) (by omega) (by omega) (by rw [List.length_take]; omega) hd.symm (by omega) (hsm.take _) (by have := hr.take d; rw [ints_take] at this; exact this) c0 c1)
      have HX := Lib.hid (show clI leaf i n p = jn (clI leaf i (spN n) (p.take d)) x by rw [cl_left (by omega) (by omega), hpq, hq, Nat.add_sub_cancel, hgx])
      have hsc : Sm1 (clI leaf i (spN n) (p.take d)) := cl_sm _ _ _ _ hleaf
      have HJ := Lib.hid (fun w => join_any (clI leaf i (spN n) (p.take d)) x w hsc hsx)
      generalize clI leaf i (spN n) (p.take d) = y at *
      generalize spN n = k at *
      have e3 : decide ((i : Int) < (k : Int)) = true := decide_eq_true (by omega)
      have e3' : decide (i < k) = true := decide_eq_true (by omega)
      have q1 : wrap64 ((q : Int) - 1) = (d : Int) := by unfold wrap64; omega
      have b0 : (0 : Int) ≤ (d : Int) := by omega
      have b1 : (d : Int) < (q : Int) := by omega
      have b1' : d < q := by omega
      have b2 : (d : Int) ≤ (c : Int) := by omega
      have b3 : d ≤ c := by omega
      clear ih hr hx hd hdp hsc hgx hpq hq hd64 hqc hsx
      go_enter Tryd.func142, Tryd.ntmps142
      go_wp2_with fail
      refine (HS.out).mono ?_
      rintro e w' ⟨rfl, rfl⟩
      go_wp2_with fail
      go_quiet ((first | (go_at_call 142; with_reducible exact qmB (HC.out _)) | (go_at_call 97; first | (with_reducible exact qs0 (HJ.out _)) | (with_reducible exact qs (HJ.out _)))))
      go_wp2_with fail
      go_ret
      exact ⟨by rw [HX.out]; rfl, _, rfl⟩
    · have hdp : dpN i n = dpN (i - spN n) (n - spN n) + 1 := dp_right (by omega) (by omega)
      obtain ⟨d, hd⟩ : ∃ d, dpN (i - spN n) (n - spN n) = d := ⟨_, rfl⟩
      rw [hdp, hd] at hq
      obtain ⟨b, o, rfl⟩ := hr.some_ (by omega)
      obtain ⟨b2, o2, x, hb2, hx, cx⟩ := hr.int d (by omega)
      cases hb2
      have hd64 : d ≤ 64 := by rw [← hd]; exact Nat.le_trans (dp_le _ _) (by omega)
      have hsx := hsm x (List.mem_of_getElem? hx.out)
      have hgx := gI_get hx.out
      have HC := Lib.hid (fun m => ih (n - spN n) (by omega) (i - spN n) d (p.take d) (some ⟨b, o, none⟩) c (w.drewN m) (by omega) (by omega) (by omega) (by rw [List.length_take]; omega) hd.symm (by omega) (hsm.take _) (by have := hr.take d; rw [ints_take] at this; exact this) c0 c1)
      have HX := Lib.hid (show clI leaf i n p = jn x (clI leaf (i - spN n) (n - spN n) (p.take d)) by rw [cl_right (by omega) (by omega), hpq, hq, Nat.add_sub_cancel, hgx])
      have hsc : Sm1 (clI leaf (i - spN n) (n - spN n) (p.take d)) := cl_sm _ _ _ _ hleaf
      have HJ := Lib.hid (fun w => join_any x (clI leaf (i - spN n) (n - spN n) (p.take d)) w hsx hsc)
      generalize clI leaf (i - spN n) (n - spN n) (p.take d) = y at *
      generalize spN n = k at *
      have e3 : decide ((i : Int) < (k : Int)) = false := decide_eq_false (by omega)
      have e3' : decide (i < k) = false := decide_eq_false (by omega)
      have q1 : wrap64 ((q : Int) - 1) = (d : Int) := by unfold wrap64; omega
      have b0 : (0 : Int) ≤ (d : Int) := by omega
      have b1 : (d : Int) < (q : Int) := by omega
      have b1' : d < q := by omega
      have b2 : (d : Int) ≤ (c : Int) := by omega
      have b3 : d ≤ c := by omega
      rw [show ((i - k : Nat) : Int) = (i : Int) - (k : Int) by omega, show ((n - k : Nat) : Int) = (n : Int) - (k : Int) by omega] at HC
      have q2 : IntKind.i64.wrap ((i : Int) - (k : Int)) = (i : Int) - (k : Int) := by rw [IntKind.wrap_i64]; omega
      have q3 : IntKind.i64.wrap ((n : Int) - (k : Int)) = (n : Int) - (k : Int) := by rw [IntKind.wrap_i64]; omega
      clear ih hr hx hd hdp hsc hgx hpq hq hd64 hqc hsx
      go_enter Tryd.func142, Tryd.ntmps142
      go_wp2_with fail
      refine (HS.out).mono ?_
      rintro e w' ⟨rfl, rfl⟩
      go_wp2_with fail
      go_quiet ((first | (go_at_call 142; with_reducible exact qmB (HC.out _)) | (go_at_call 97; first | (with_reducible exact qs0 (HJ.out _)) | (with_reducible exact qs (HJ.out _)))))
      go_wp2_with fail
      go_ret
      exact ⟨by rw [HX.out]; rfl, _, rfl⟩
theorem cellKeep {w w' : World} {p : Addr} {u : Value} (h : w.cell? p = some u) (hb : Below w.heap.size w w') (hp : p.block < w.heap.size) : w'.cell? p = some u := (hb.cell hp).trans h
/-- What Climb returns. -/
def cbE (leaf i n : Int) (p : List Int) : Int := if plE i n = 0 then (if smB leaf = true then (if smsB p = true then (if p.length = dpN i.toNat n.toNat then 0 else 7) else 1) else 1) else plE i n
def cbV (leaf i n : Int) (p : List Int) : Int := if cbE leaf i n p = 0 then clI leaf i.toNat n.toNat p else 0
theorem cb_ok {leaf i n : Int} {p : List Int} (h : cbE leaf i n p = 0) : plE i n = 0 ∧ Sm1 leaf ∧ AllSm p ∧ p.length = dpN i.toNat n.toNat := by
  unfold cbE at h
  split at h
  · rename_i h1
    split at h
    · rename_i h2
      split at h
      · rename_i h3
        split at h
        · rename_i h4
          exact ⟨h1, smB_iff.1 h2, smsB_iff.1 h3, h4⟩
        · cases h
      · cases h
    · cases h
  · rename_i h1
    exact absurd h h1
set_option maxRecDepth 4000 in
set_option maxHeartbeats 4000000 in
theorem Climb_any (leaf i n : Int) (A : Option Addr) (c : Nat) (p : List Int) (w : World) (hr : Rd w w.heap.size A (ints p)) (hl : p.length ≤ c) (hc : p.length ≤ 9223372036854775807) :
    Calls Tryd.prog 99 #[.int .i64 leaf, .int .i64 i, .int .i64 n, .slice A p.length c] w fun e w' => e = .returned (.tuple #[.int .i64 (cbV leaf i n p), .int .i64 (cbE leaf i n p)]) ∧ Below w.heap.size w w' := by
  obtain ⟨W, hW, k0, s0, b0⟩ := one_blk w #[.int .i64 leaf] 3
  have c0 : W.cell? ⟨w.heap.size, 0, none⟩ = some (.int .i64 leaf) := by rw [blk_cell k0]; rfl
  have B0 := Lib.hid b0
  have R0 := Lib.hid (hr.upb b0)
  have HD := Lib.hid (Depth_any i n W)
  have HI := Lib.hid (isSum_any leaf W)
  have HA := Lib.hid (areSums_any A c p W R0.out (by omega))
  clear k0 b0 hr
  by_cases hp : plE i n = 0
  case neg =>
    have HX := Lib.hid (show cbE leaf i n p = plE i n from if_neg hp)
    have HV := Lib.hid (show cbV leaf i n p = 0 from if_neg (by rw [HX.out]; exact hp))
    have e1 : (plE i n != 0) = true := by simpa using hp
    have HDV := Lib.hid (show dpV i n = 0 from if_neg hp)
    rw [HX.out, HV.out]
    rw [HDV.out] at HD
    generalize plE i n = E at *
    clear hp c0
    go_enter Tryd.func99, Tryd.ntmps99
    go_wp2_with fail
    refine (HD.out).mono ?_
    rintro e w' ⟨rfl, rfl⟩
    go_wp2_with fail
    go_ret2
    exact ⟨rfl, B0.out⟩
  have hx1 : cbE leaf i n p = if smB leaf = true then (if smsB p = true then (if p.length = dpN i.toNat n.toNat then 0 else 7) else 1) else 1 := if_pos hp
  have hdv : dpV i n = (dpN i.toNat n.toNat : Int) := if_pos hp
  rw [hp, hdv] at HD
  have hpl := plE_ok hp
  cases hs : smB leaf
  case false =>
    have HX := Lib.hid (show cbE leaf i n p = 1 by rw [hx1, hs]; rfl)
    have HV := Lib.hid (show cbV leaf i n p = 0 from if_neg (by rw [HX.out]; decide))
    rw [HX.out, HV.out]
    rw [hs] at HI
    generalize dpN i.toNat n.toNat = d at *
    clear hp hx1 hs hdv hpl
    go_enter Tryd.func99, Tryd.ntmps99
    go_wp2_with fail
    refine (HD.out).mono ?_
    rintro e w' ⟨rfl, rfl⟩
    go_wp2_with fail
    refine (HI.out).mono ?_
    rintro e w' ⟨rfl, rfl⟩
    go_wp2_with fail
    go_ret2
    exact ⟨rfl, B0.out⟩
  rw [hs] at HI
  cases ha : smsB p
  case false =>
    have HX := Lib.hid (show cbE leaf i n p = 1 by rw [hx1, hs, ha]; rfl)
    have HV := Lib.hid (show cbV leaf i n p = 0 from if_neg (by rw [HX.out]; decide))
    rw [HX.out, HV.out]
    rw [ha] at HA
    generalize dpN i.toNat n.toNat = d at *
    clear hp hx1 hs ha hdv hpl
    go_enter Tryd.func99, Tryd.ntmps99
    go_wp2_with fail
    refine (HD.out).mono ?_
    rintro e w' ⟨rfl, rfl⟩
    go_wp2_with fail
    refine (HI.out).mono ?_
    rintro e w' ⟨rfl, rfl⟩
    go_wp2_with fail
    refine (HA.out).mono ?_
    rintro e w' ⟨rfl, rfl⟩
    go_wp2_with fail
    go_ret2
    exact ⟨rfl, B0.out⟩
  rw [ha] at HA
  rw [hs, if_pos rfl, ha, if_pos rfl] at hx1
  by_cases hd : p.length = dpN i.toNat n.toNat
  case neg =>
    have HX := Lib.hid (show cbE leaf i n p = 7 by rw [hx1, if_neg hd])
    have HV := Lib.hid (show cbV leaf i n p = 0 from if_neg (by rw [HX.out]; decide))
    rw [HX.out, HV.out]
    have e2 : ((p.length : Int) != (dpN i.toNat n.toNat : Int)) = true := by rw [bne_iff_ne]; omega
    have e2' : (p.length != dpN i.toNat n.toNat) = true := by rw [bne_iff_ne]; exact hd
    generalize dpN i.toNat n.toNat = d at *
    clear hp hx1 hs ha hdv hpl hd
    go_enter Tryd.func99, Tryd.ntmps99
    go_wp2_with fail
    refine (HD.out).mono ?_
    rintro e w' ⟨rfl, rfl⟩
    go_wp2_with fail
    refine (HI.out).mono ?_
    rintro e w' ⟨rfl, rfl⟩
    go_wp2_with fail
    refine (HA.out).mono ?_
    rintro e w' ⟨rfl, rfl⟩
    go_wp2_with fail
    go_ret2
    exact ⟨rfl, B0.out⟩
  have hcb : cbE leaf i n p = 0 := by rw [hx1, if_pos hd]
  have HX := Lib.hid hcb
  have HV := Lib.hid (show cbV leaf i n p = clI leaf i.toNat n.toNat p from if_pos hcb)
  rw [HX.out, HV.out]
  obtain ⟨a, rfl⟩ : ∃ a : Nat, i = (a : Int) := ⟨i.toNat, by omega⟩
  obtain ⟨b, rfl⟩ : ∃ b : Nat, n = (b : Int) := ⟨n.toNat, by omega⟩
  rw [show ((a : Int)).toNat = a from rfl, show ((b : Int)).toNat = b from rfl] at *
  have B1 := Lib.hid ((Below.refl W.heap.size W).alloc (Nat.le_refl _) (.cells #[.func (.func 142) #[] #[.pointer (some ⟨w.heap.size, 0, none⟩), .pointer (some ⟨W.heap.size, 0, none⟩)]] 144))
  obtain ⟨W2, hW2, k2, s2, b2⟩ := one_blk W #[.func (.func 142) #[] #[.pointer (some ⟨w.heap.size, 0, none⟩), .pointer (some ⟨W.heap.size, 0, none⟩)]] 144
  have c2 : W2.cell? ⟨W.heap.size, 0, none⟩ = some (.func (.func 142) #[] #[.pointer (some ⟨w.heap.size, 0, none⟩), .pointer (some ⟨W.heap.size, 0, none⟩)]) := by rw [blk_cell k2]; rfl
  have HC := Lib.hid (climb_any leaf w.heap.size W.heap.size (smB_iff.1 hs) b a p.length p A c W2 (by omega) (by omega) (by omega) rfl hd hl (smsB_iff.1 ha) (R0.out.upb b2) (cellKeep c0 b2 s0) c2)
  have B2 := Lib.hid (B0.out.trans (b2.mono B0.out.size))
  have e2 : ((p.length : Int) != (dpN a b : Int)) = false := by rw [hd]; simp
  have e2' : (p.length != dpN a b) = false := by rw [hd]; simp
  generalize dpN a b = d at *
  clear hp hx1 hs ha hdv hpl hd hcb k2 b2 B1
  go_enter Tryd.func99, Tryd.ntmps99
  go_wp2_with fail
  refine (HD.out).mono ?_
  rintro e w' ⟨rfl, rfl⟩
  go_wp2_with fail
  refine (HI.out).mono ?_
  rintro e w' ⟨rfl, rfl⟩
  go_wp2_with fail
  refine (HA.out).mono ?_
  rintro e w' ⟨rfl, rfl⟩
  go_wp2_with fail
  refine HC.out.mono ?_
  rintro e w' ⟨rfl, m, rfl⟩
  go_wp2_with fail
  go_ret2
  exact ⟨rfl, bdDN B2.out m⟩
theorem stI_sm {S : List Bool} {p : List Int} {leaf : Int} (h : Sm1 leaf) : ∀ k, Sm1 (stI S p leaf k)
  | 0 => h
  | k + 1 => by
    unfold stI
    split
    · exact jn_sm _ _
    · exact jn_sm _ _
/-- What CheckPage returns. -/
def cpE (root : Int) (s : ByteArray) (i n : Int) (p : List Int) : Int := if pgB s = true then (if cbE (lfS s) i n p = 0 then (if smB root = true then (if cbV (lfS s) i n p = root then 0 else 7) else 1) else cbE (lfS s) i n p) else 1
set_option maxRecDepth 4000 in
set_option maxHeartbeats 4000000 in
theorem CheckPage_any (root : Int) (s : ByteArray) (i n : Int) (A : Option Addr) (c : Nat) (p : List Int) (w : World) (hr : Rd w w.heap.size A (ints p)) (hl : p.length ≤ c) (hc : p.length ≤ 9223372036854775807) (hs : s.size ≤ 9223372036854775807) :
    Calls Tryd.prog 44 #[.int .i64 root, .string s, .int .i64 i, .int .i64 n, .slice A p.length c] w fun e w' => e = .returned (.int .i64 (cpE root s i n p)) ∧ Below w.heap.size w w' := by
  have HL := Lib.hid (Leaf_any s w hs)
  have HC := Lib.hid (Climb_any (lfS s) i n A c p w hr hl hc)
  have HS := Lib.hid (fun w => isSum_any root w)
  clear hr
  cases hp : pgB s
  case false =>
    have HX := Lib.hid (show cpE root s i n p = 1 by unfold cpE; rw [hp]; rfl)
    rw [HX.out]
    have HL0 := Lib.hid (show leafV s = 0 ∧ leafE s = 1 by unfold leafV leafE; rw [hp]; exact ⟨rfl, rfl⟩)
    rw [HL0.out.1, HL0.out.2] at HL
    generalize lfS s = x at *
    generalize p.length = q at *
    clear hp
    go_enter Tryd.func44, Tryd.ntmps44
    go_wp2_with fail
    refine (HL.out).mono ?_
    rintro e w' ⟨rfl, rfl⟩
    go_wp2_with fail
    go_ret
    exact ⟨rfl, Below.refl _ _⟩
  have HL0 := Lib.hid (show leafV s = lfS s ∧ leafE s = 0 by unfold leafV leafE; rw [hp]; exact ⟨rfl, rfl⟩)
  rw [HL0.out.1, HL0.out.2] at HL
  have hx1 : cpE root s i n p = if cbE (lfS s) i n p = 0 then (if smB root = true then (if cbV (lfS s) i n p = root then 0 else 7) else 1) else cbE (lfS s) i n p := by unfold cpE; rw [hp]; rfl
  by_cases h0 : cbE (lfS s) i n p = 0
  case neg =>
    have HX := Lib.hid (show cpE root s i n p = cbE (lfS s) i n p by rw [hx1, if_neg h0])
    have e1 : (cbE (lfS s) i n p != 0) = true := by simpa using h0
    rw [HX.out]
    generalize cbE (lfS s) i n p = E at *
    generalize cbV (lfS s) i n p = V at *
    generalize lfS s = x at *
    generalize p.length = q at *
    clear hp hx1 h0
    go_enter Tryd.func44, Tryd.ntmps44
    go_wp2_with fail
    refine (HL.out).mono ?_
    rintro e w' ⟨rfl, rfl⟩
    go_wp2_with fail
    refine HC.out.mono ?_
    rintro e w1 ⟨rfl, hb⟩
    have B1 := Lib.hid hb
    clear hb
    go_wp2_with fail
    go_ret
    exact ⟨rfl, B1.out⟩
  rw [h0] at HC
  rw [if_pos h0] at hx1
  cases hsr : smB root
  case false =>
    have HX := Lib.hid (show cpE root s i n p = 1 by rw [hx1, hsr]; rfl)
    rw [HX.out]
    rw [hsr] at HS
    generalize cbV (lfS s) i n p = V at *
    generalize lfS s = x at *
    generalize p.length = q at *
    clear hp hx1 h0 hsr
    go_enter Tryd.func44, Tryd.ntmps44
    go_wp2_with fail
    refine (HL.out).mono ?_
    rintro e w' ⟨rfl, rfl⟩
    go_wp2_with fail
    refine HC.out.mono ?_
    rintro e w1 ⟨rfl, hb⟩
    have B1 := Lib.hid hb
    clear hb
    go_wp2_with fail
    refine (HS.out w1).mono ?_
    rintro e w' ⟨rfl, rfl⟩
    go_wp2_with fail
    go_ret
    exact ⟨rfl, B1.out⟩
  rw [hsr] at HS
  rw [hsr, if_pos rfl] at hx1
  by_cases hv : cbV (lfS s) i n p = root
  case pos =>
    have HX := Lib.hid (show cpE root s i n p = 0 by rw [hx1, if_pos hv])
    rw [HX.out]
    rw [hv] at HC
    have e1 : (root != root) = false := by simp
    generalize lfS s = x at *
    generalize p.length = q at *
    clear hp hx1 h0 hsr hv
    go_enter Tryd.func44, Tryd.ntmps44
    go_wp2_with fail
    refine (HL.out).mono ?_
    rintro e w' ⟨rfl, rfl⟩
    go_wp2_with fail
    refine HC.out.mono ?_
    rintro e w1 ⟨rfl, hb⟩
    have B1 := Lib.hid hb
    clear hb
    go_wp2_with fail
    refine (HS.out w1).mono ?_
    rintro e w' ⟨rfl, rfl⟩
    go_wp2_with fail
    go_ret
    exact ⟨rfl, B1.out⟩
  case neg =>
    have HX := Lib.hid (show cpE root s i n p = 7 by rw [hx1, if_neg hv])
    rw [HX.out]
    have e1 : (cbV (lfS s) i n p != root) = true := by simpa using hv
    generalize cbV (lfS s) i n p = V at *
    generalize lfS s = x at *
    generalize p.length = q at *
    clear hp hx1 h0 hsr hv
    go_enter Tryd.func44, Tryd.ntmps44
    go_wp2_with fail
    refine (HL.out).mono ?_
    rintro e w' ⟨rfl, rfl⟩
    go_wp2_with fail
    refine HC.out.mono ?_
    rintro e w1 ⟨rfl, hb⟩
    have B1 := Lib.hid hb
    clear hb
    go_wp2_with fail
    refine (HS.out w1).mono ?_
    rintro e w' ⟨rfl, rfl⟩
    go_wp2_with fail
    go_ret
    exact ⟨rfl, B1.out⟩
end Go.Proofs.YtoenecgjiejljaaDoor

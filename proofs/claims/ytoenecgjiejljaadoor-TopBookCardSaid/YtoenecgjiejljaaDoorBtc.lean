/-
  Unfold, CheckGrowth, Common: the walks, of both sides. Condition: the lists can be read.
-/
import Derived.Test.YtoenecgjiejljaaDoorBtb
namespace Go.Proofs.YtoenecgjiejljaaDoor
open Go.RowKit
set_option linter.unusedVariables false

/-- What Unfold returns. -/
def ufE (m n old : Int) (p : List Int) : Int := if 1 ≤ m ∧ m ≤ n ∧ n ≤ 64 then (if smB old = true then (if smsB p = true then (if p.length = gsN m.toNat n.toNat true then 0 else 7) else 1) else 1) else 1
def ufV (m n old : Int) (p : List Int) : Int × Int := if ufE m n old p = 0 then unI old m.toNat n.toNat true p else (0, 0)
theorem uf_ok {m n old : Int} {p : List Int} (h : ufE m n old p = 0) : (1 ≤ m ∧ m ≤ n ∧ n ≤ 64) ∧ Sm1 old ∧ AllSm p ∧ p.length = gsN m.toNat n.toNat true := by
  unfold ufE at h
  split at h
  · rename_i h1
    split at h
    · rename_i h2
      split at h
      · rename_i h3
        split at h
        · rename_i h4
          exact ⟨h1, smB_iff.1 h2, smsB_iff.1 h3, h4⟩
        · cases h
      · cases h
    · cases h
  · cases h
theorem uf_of {m n old : Int} {p : List Int} (h1 : 1 ≤ m ∧ m ≤ n ∧ n ≤ 64) (h2 : Sm1 old) (h3 : AllSm p) (h4 : p.length = gsN m.toNat n.toNat true) : ufE m n old p = 0 := by
  unfold ufE
  rw [if_pos h1, if_pos (smB_iff.2 h2), if_pos (smsB_iff.2 h3), if_pos h4]
set_option maxRecDepth 4000 in
set_option maxHeartbeats 4000000 in
theorem Unfold_any (m n old : Int) (A : Option Addr) (c : Nat) (p : List Int) (w : World) (hr : Rd w w.heap.size A (ints p)) (hl : p.length ≤ c) (hc : p.length ≤ 9223372036854775807) :
    Calls Tryd.prog 101 #[.int .i64 m, .int .i64 n, .int .i64 old, .slice A p.length c] w fun e w' => e = .returned (.tuple #[.int .i64 (ufV m n old p).1, .int .i64 (ufV m n old p).2, .int .i64 (ufE m n old p)]) ∧ Below w.heap.size w w' := by
  obtain ⟨W, hW, k0, s0, b0⟩ := one_blk w #[.int .i64 old] 3
  have c0 : W.cell? ⟨w.heap.size, 0, none⟩ = some (.int .i64 old) := by rw [blk_cell k0]; rfl
  have B0 := Lib.hid b0
  have R0 := Lib.hid (hr.upb b0)
  clear k0 b0 hr
  have HI := Lib.hid (isSum_any old W)
  have HA := Lib.hid (areSums_any A c p W R0.out hc)
  have hbad : ufE m n old p ≠ 0 → ufV m n old p = (0, 0) := fun h => if_neg h
  by_cases h1 : 1 ≤ m
  case neg =>
    have e1 : decide (m < 1) = true := decide_eq_true (by omega)
    have HX := Lib.hid (show ufE m n old p = 1 from if_neg (by omega))
    have HV := Lib.hid (hbad (by rw [HX.out]; decide))
    rw [HX.out, HV.out]
    clear h1 hbad
    go_enter Tryd.func101, Tryd.ntmps101
    go_wp2_with fail
    go_ret3
    exact ⟨rfl, B0.out⟩
  have e1 : decide (m < 1) = false := decide_eq_false (by omega)
  by_cases h2 : m ≤ n
  case neg =>
    have e2 : decide (n < m) = true := decide_eq_true (by omega)
    have HX := Lib.hid (show ufE m n old p = 1 from if_neg (by omega))
    have HV := Lib.hid (hbad (by rw [HX.out]; decide))
    rw [HX.out, HV.out]
    clear h1 h2 hbad
    go_enter Tryd.func101, Tryd.ntmps101
    go_wp2_with fail
    go_ret3
    exact ⟨rfl, B0.out⟩
  have e2 : decide (n < m) = false := decide_eq_false (by omega)
  by_cases h3 : n ≤ 64
  case neg =>
    have e3 : decide (64 < n) = true := decide_eq_true (by omega)
    have HX := Lib.hid (show ufE m n old p = 1 from if_neg (by omega))
    have HV := Lib.hid (hbad (by rw [HX.out]; decide))
    rw [HX.out, HV.out]
    clear h1 h2 h3 hbad
    go_enter Tryd.func101, Tryd.ntmps101
    go_wp2_with fail
    go_ret3
    exact ⟨rfl, B0.out⟩
  have e3 : decide (64 < n) = false := decide_eq_false (by omega)
  have hx1 : ufE m n old p = if smB old = true then (if smsB p = true then (if p.length = gsN m.toNat n.toNat true then 0 else 7) else 1) else 1 := if_pos ⟨h1, h2, h3⟩
  cases hs : smB old
  case false =>
    rw [hs] at HI
    have HX := Lib.hid (show ufE m n old p = 1 by rw [hx1, hs]; rfl)
    have HV := Lib.hid (hbad (by rw [HX.out]; decide))
    rw [HX.out, HV.out]
    clear h1 h2 h3 hx1 hs hbad
    go_enter Tryd.func101, Tryd.ntmps101
    go_wp2_with fail
    refine (HI.out).mono ?_
    rintro e w' ⟨rfl, rfl⟩
    go_wp2_with fail
    go_ret3
    exact ⟨rfl, B0.out⟩
  rw [hs] at HI
  cases ha : smsB p
  case false =>
    rw [ha] at HA
    have HX := Lib.hid (show ufE m n old p = 1 by rw [hx1, hs, ha]; rfl)
    have HV := Lib.hid (hbad (by rw [HX.out]; decide))
    rw [HX.out, HV.out]
    clear h1 h2 h3 hx1 hs ha hbad
    go_enter Tryd.func101, Tryd.ntmps101
    go_wp2_with fail
    refine (HI.out).mono ?_
    rintro e w' ⟨rfl, rfl⟩
    go_wp2_with fail
    refine (HA.out).mono ?_
    rintro e w' ⟨rfl, rfl⟩
    go_wp2_with fail
    go_ret3
    exact ⟨rfl, B0.out⟩
  rw [ha] at HA
  rw [hs, if_pos rfl, ha, if_pos rfl] at hx1
  obtain ⟨a, rfl⟩ : ∃ a : Nat, m = (a : Int) := ⟨m.toNat, by omega⟩
  obtain ⟨b, rfl⟩ : ∃ b : Nat, n = (b : Int) := ⟨n.toNat, by omega⟩
  rw [show ((a : Int)).toNat = a from rfl, show ((b : Int)).toNat = b from rfl] at hx1
  have n1 : decide (a < 1) = false := decide_eq_false (by omega)
  have n1' : (a == 0) = false := beq_eq_false_iff_ne.2 (by omega)
  have n2 : decide (b < a) = false := decide_eq_false (by omega)
  have n3 : decide (64 < b) = false := decide_eq_false (by omega)
  have HG := Lib.hid (growthSize_any b a true W (by omega) (by omega) (by omega))
  by_cases hd : p.length = gsN a b true
  case neg =>
    have e4 : ((p.length : Int) != (gsN a b true : Int)) = true := by rw [bne_iff_ne]; omega
    have e4' : (p.length != gsN a b true) = true := by rw [bne_iff_ne]; exact hd
    have HX := Lib.hid (show ufE (a : Int) (b : Int) old p = 7 by rw [hx1, if_neg hd])
    have HV := Lib.hid (hbad (by rw [HX.out]; decide))
    rw [HX.out, HV.out]
    generalize gsN a b true = g at *
    clear h1 h2 h3 hx1 hs ha hbad hd
    go_enter Tryd.func101, Tryd.ntmps101
    go_wp2_with fail
    refine (HI.out).mono ?_
    rintro e w' ⟨rfl, rfl⟩
    go_wp2_with fail
    refine (HA.out).mono ?_
    rintro e w' ⟨rfl, rfl⟩
    go_wp2_with fail
    refine (HG.out).mono ?_
    rintro e w' ⟨rfl, rfl⟩
    go_wp2_with fail
    go_ret3
    exact ⟨rfl, B0.out⟩
  have hcb : ufE (a : Int) (b : Int) old p = 0 := by rw [hx1, if_pos hd]
  have HX := Lib.hid hcb
  have HV := Lib.hid (show ufV (a : Int) (b : Int) old p = unI old a b true p from if_pos hcb)
  rw [HX.out, HV.out]
  obtain ⟨W2, hW2, k2, s2, b2⟩ := one_blk W #[.func (.func 145) #[] #[.pointer (some ⟨w.heap.size, 0, none⟩), .pointer (some ⟨W.heap.size, 0, none⟩)]] 146
  have c2 : W2.cell? ⟨W.heap.size, 0, none⟩ = some (.func (.func 145) #[] #[.pointer (some ⟨w.heap.size, 0, none⟩), .pointer (some ⟨W.heap.size, 0, none⟩)]) := by rw [blk_cell k2]; rfl
  have HC := Lib.hid (unf_any old w.heap.size W.heap.size (smB_iff.1 hs) b a p.length true p A c W2 (by omega) (by omega) (by omega) rfl hd hl (smsB_iff.1 ha) (R0.out.upb b2) (cellKeep c0 b2 s0) c2)
  have B2 := Lib.hid (B0.out.trans (b2.mono B0.out.size))
  have e4 : ((p.length : Int) != (gsN a b true : Int)) = false := by rw [hd]; simp
  have e4' : (p.length != gsN a b true) = false := by rw [hd]; simp
  generalize gsN a b true = g at *
  generalize unI old a b true p = yy at *
  clear h1 h2 h3 hx1 hs ha hbad hd hcb k2 b2
  go_enter Tryd.func101, Tryd.ntmps101
  go_wp2_with fail
  refine (HI.out).mono ?_
  rintro e w' ⟨rfl, rfl⟩
  go_wp2_with fail
  refine (HA.out).mono ?_
  rintro e w' ⟨rfl, rfl⟩
  go_wp2_with fail
  refine (HG.out).mono ?_
  rintro e w' ⟨rfl, rfl⟩
  go_wp2_with fail
  refine HC.out.mono ?_
  rintro e w' ⟨rfl, mm, rfl⟩
  go_wp2_with fail
  go_ret3
  exact ⟨rfl, bdDN B2.out mm⟩
/-- What CheckGrowth returns. -/
def cgE (old root m n : Int) (p : List Int) : Int := if ufE m n old p = 0 then (if smB root = true then (if (ufV m n old p).1 = old ∧ (ufV m n old p).2 = root then 0 else 7) else 1) else ufE m n old p
set_option maxRecDepth 4000 in
set_option maxHeartbeats 4000000 in
theorem CheckGrowth_any (old root m n : Int) (A : Option Addr) (c : Nat) (p : List Int) (w : World) (hr : Rd w w.heap.size A (ints p)) (hl : p.length ≤ c) (hc : p.length ≤ 9223372036854775807) :
    Calls Tryd.prog 46 #[.int .i64 old, .int .i64 root, .int .i64 m, .int .i64 n, .slice A p.length c] w fun e w' => e = .returned (.int .i64 (cgE old root m n p)) ∧ Below w.heap.size w w' := by
  have HC := Lib.hid (Unfold_any m n old A c p w hr hl hc)
  have HS := Lib.hid (fun w => isSum_any root w)
  clear hr
  by_cases h0 : ufE m n old p = 0
  case neg =>
    have HX := Lib.hid (show cgE old root m n p = ufE m n old p from if_neg h0)
    have e1 : (ufE m n old p != 0) = true := by simpa using h0
    rw [HX.out]
    generalize ufE m n old p = E at *
    generalize ufV m n old p = V at *
    generalize p.length = q at *
    clear h0
    go_enter Tryd.func46, Tryd.ntmps46
    go_wp2_with fail
    refine HC.out.mono ?_
    rintro e w1 ⟨rfl, hb⟩
    have B1 := Lib.hid hb
    clear hb
    go_wp2_with fail
    go_ret
    exact ⟨rfl, B1.out⟩
  have hx1 : cgE old root m n p = if smB root = true then (if (ufV m n old p).1 = old ∧ (ufV m n old p).2 = root then 0 else 7) else 1 := if_pos h0
  rw [h0] at HC
  cases hsr : smB root
  case false =>
    have HX := Lib.hid (show cgE old root m n p = 1 by rw [hx1, hsr]; rfl)
    rw [HX.out]
    rw [hsr] at HS
    generalize ufV m n old p = V at *
    generalize p.length = q at *
    clear h0 hx1 hsr
    go_enter Tryd.func46, Tryd.ntmps46
    go_wp2_with fail
    refine HC.out.mono ?_
    rintro e w1 ⟨rfl, hb⟩
    have B1 := Lib.hid hb
    clear hb
    go_wp2_with fail
    refine (HS.out w1).mono ?_
    rintro e w' ⟨rfl, rfl⟩
    go_wp2_with fail
    go_ret
    exact ⟨rfl, B1.out⟩
  rw [hsr] at HS
  rw [hsr, if_pos rfl] at hx1
  generalize ufV m n old p = V at *
  obtain ⟨y, z⟩ := V
  simp only at HC hx1
  by_cases h1 : y = old
  case neg =>
    have HX := Lib.hid (show cgE old root m n p = 7 by rw [hx1, if_neg (fun h => h1 h.1)])
    rw [HX.out]
    have e1 : (y != old) = true := by simpa using h1
    generalize p.length = q at *
    clear h0 hx1 hsr h1
    go_enter Tryd.func46, Tryd.ntmps46
    go_wp2_with fail
    refine HC.out.mono ?_
    rintro e w1 ⟨rfl, hb⟩
    have B1 := Lib.hid hb
    clear hb
    go_wp2_with fail
    refine (HS.out w1).mono ?_
    rintro e w' ⟨rfl, rfl⟩
    go_wp2_with fail
    go_ret
    exact ⟨rfl, B1.out⟩
  subst h1
  have e1 : (y != y) = false := by simp
  by_cases h2 : z = root
  case neg =>
    have HX := Lib.hid (show cgE y root m n p = 7 by rw [hx1, if_neg (fun h => h2 h.2)])
    rw [HX.out]
    have e2 : (z != root) = true := by simpa using h2
    generalize p.length = q at *
    clear h0 hx1 hsr h2
    go_enter Tryd.func46, Tryd.ntmps46
    go_wp2_with fail
    refine HC.out.mono ?_
    rintro e w1 ⟨rfl, hb⟩
    have B1 := Lib.hid hb
    clear hb
    go_wp2_with fail
    refine (HS.out w1).mono ?_
    rintro e w' ⟨rfl, rfl⟩
    go_wp2_with fail
    go_ret
    exact ⟨rfl, B1.out⟩
  subst h2
  have e2 : (z != z) = false := by simp
  have HX := Lib.hid (show cgE y z m n p = 0 by rw [hx1, if_pos ⟨rfl, rfl⟩])
  rw [HX.out]
  generalize p.length = q at *
  clear h0 hx1 hsr
  go_enter Tryd.func46, Tryd.ntmps46
  go_wp2_with fail
  refine HC.out.mono ?_
  rintro e w1 ⟨rfl, hb⟩
  have B1 := Lib.hid hb
  clear hb
  go_wp2_with fail
  refine (HS.out w1).mono ?_
  rintro e w' ⟨rfl, rfl⟩
  go_wp2_with fail
  go_ret
  exact ⟨rfl, B1.out⟩
end Go.Proofs.YtoenecgjiejljaaDoor

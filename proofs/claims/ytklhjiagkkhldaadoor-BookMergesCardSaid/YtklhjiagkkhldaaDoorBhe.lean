/-
  Merge of the reference: the walk. Condition: sizes.
-/
import Derived.Test.YtklhjiagkkhldaaDoorBhd
namespace Go.Proofs.YtklhjiagkkhldaaDoor
open Go.RowKit
set_option linter.unusedVariables false

theorem sL_emp (r : List UInt8) : (sL r).toList.isEmpty = decide (r = []) := by
  have h := sL_nil (r := r)
  rw [← h]
  cases (sL r).toList <;> rfl
/-- What Merge returns, as an ending. -/
def MgPost (o : List UInt8 × Int × Int) (w : World) (e : Ending) (w' : World) : Prop := e = .returned (.tuple #[.string (sL o.1), .int .i64 o.2.1, .int .i64 o.2.2]) ∧ Below w.heap.size w w'
set_option maxRecDepth 8000 in
set_option maxHeartbeats 4000000 in
theorem rMerge_any (s t : List UInt8) (w : World) (hs : s.length ≤ 9000) (ht : t.length ≤ 9000) : Calls Tryd.prog 14 #[.string (sL s), .string (sL t)] w (MgPost (mgO s t) w) := by
  have H1 := Lib.hid (ReadAll_any s w hs)
  have H2 := Lib.hid (fun w' => ReadAll_any t w' ht)
  clear hs ht
  by_cases h1 : rdE s = 0
  case neg =>
    rw [mg_e1 h1]
    unfold MgPost
    have z1 : (rdE s != 0) = true := by simpa using h1
    clear h1 H2
    generalize rdE s = E at *
    generalize rdN s = N at *
    generalize rdP s = P at *
    generalize sL (rdR s) = R at *
    generalize sL s = s1 at *
    generalize sL t = t1 at *
    go_enter Tryd.func14, Tryd.ntmps14
    go_wp2_with fail
    refine H1.out.mono ?_
    rintro e w1 ⟨A1, c1, rfl, hc1, r1, hb⟩
    have B1 := Lib.hid hb
    clear hb r1 hc1
    go_wp2_with fail
    go_ret3
    exact ⟨rfl, B1.out⟩
  by_cases h2 : rdE t = 0
  case neg =>
    rw [mg_e2 h1 h2]
    unfold MgPost
    have z2 : (rdE t != 0) = true := by simpa using h2
    rw [h1] at H1
    clear h1 h2
    generalize rdE t = E at *
    generalize rdN s = N at *
    generalize rdP s = P at *
    generalize sL (rdR s) = R at *
    generalize sL s = s1 at *
    generalize rdN t = M at *
    generalize rdP t = Q at *
    generalize sL (rdR t) = T at *
    generalize sL t = t1 at *
    go_enter Tryd.func14, Tryd.ntmps14
    go_wp2_with fail
    refine H1.out.mono ?_
    rintro e w1 ⟨A1, c1, rfl, hc1, r1, hb⟩
    have B1 := Lib.hid hb
    clear hb r1 hc1
    go_wp2_with fail
    refine (H2.out w1).mono ?_
    rintro e w2 ⟨A2, c2, rfl, hc2, r2, hb⟩
    have B2 := Lib.hid (B1.out.trans (hb.mono B1.out.size))
    clear hb r2 hc2
    go_wp2_with fail
    go_ret3
    exact ⟨rfl, B2.out⟩
  rw [h1] at H1
  rw [h2] at H2
  have L1 := Lib.hid (rd_64 s)
  have L2 := Lib.hid (rd_64 t)
  have HC := Lib.hid (fun A A' c c' w h h' => rcommon_any A A' c c' ((rdP s).map sL) ((rdP t).map sL) w h h' (by rw [List.length_map]; exact rd_64 s) (by rw [List.length_map]; exact rd_64 t))
  rw [List.length_map, List.length_map] at HC
  have q1 := sL_nil (r := rdR s)
  have q2 := sL_nil (r := rdR t)
  have p1 : ((sL (rdR s)).toList != ([] : List UInt8)) = !decide (rdR s = []) := by rw [bne, q1]
  have p2 : ((sL (rdR t)).toList != ([] : List UInt8)) = !decide (rdR t = []) := by rw [bne, q2]
  have i1 := sL_emp (rdR s)
  have i2 := sL_emp (rdR t)
  by_cases h3 : (wlB s && wlB t) = true
  case neg =>
    have h3' : (wlB s && wlB t) = false := by simpa using h3
    rw [mg_e3 h1 h2 h3']
    unfold MgPost
    unfold wlB at h3'
    clear h3 h1 h2 HC L1 L2 q1 q2
    generalize decide (rdR s = []) = d1 at *
    generalize decide (rdR t = []) = d2 at *
    generalize rdN s = N at *
    generalize rdP s = P at *
    generalize sL (rdR s) = R at *
    generalize sL s = s1 at *
    generalize rdN t = M at *
    generalize rdP t = Q at *
    generalize sL (rdR t) = T at *
    generalize sL t = t1 at *
    generalize hx1 : decide ((P.length : Int) < N) = x1 at *
    generalize hx2 : decide ((Q.length : Int) < M) = x2 at *
    cases x1 <;> cases x2 <;> cases d1 <;> cases d2 <;> first | (exfalso; revert h3'; decide) | skip
    all_goals (
      clear h3'
      have j1 := congrArg not i1
      have j2 := congrArg not i2
      simp only [Bool.not_true, Bool.not_false] at p1 p2 j1 j2
      go_enter Tryd.func14, Tryd.ntmps14
      go_wp2_with fail
      refine H1.out.mono ?_
      rintro e w1 ⟨A1, c1, rfl, hc1, r1, hb⟩
      have B1 := Lib.hid hb
      clear hb r1 hc1
      go_wp2_with fail
      refine (H2.out w1).mono ?_
      rintro e w2 ⟨A2, c2, rfl, hc2, r2, hb⟩
      have B2 := Lib.hid (B1.out.trans (hb.mono B1.out.size))
      clear hb r2 hc2
      go_wp2_with fail
      go_ret3
      exact ⟨rfl, B2.out⟩)
  rw [mg_rest h1 h2 h3]
  unfold wlB at h3
  simp only [Bool.and_eq_true, Bool.not_eq_true', decide_eq_true_eq] at h3
  obtain ⟨⟨x1, d1⟩, x2, d2⟩ := h3
  have j1 : (!(sL (rdR s)).toList.isEmpty) = false := by rw [i1, d1]; rfl
  have j2 : (!(sL (rdR t)).toList.isEmpty) = false := by rw [i2, d2]; rfl
  have i1' : (sL (rdR s)).toList.isEmpty = true := by rw [i1, d1]; rfl
  have i2' : (sL (rdR t)).toList.isEmpty = true := by rw [i2, d2]; rfl
  rw [d1] at p1
  rw [d2] at p2
  have hcl := cm_le ((rdP s).map sL) ((rdP t).map sL)
  rw [List.length_map, List.length_map] at hcl
  have p1' : ((sL (rdR s)).toList != ([] : List UInt8)) = false := by rw [d1]; exact p1
  have p2' : ((sL (rdR t)).toList != ([] : List UInt8)) = false := by rw [d2]; exact p2
  clear h1 h2 q1 q2 p1 p2 i1 i2 d1 d2
  generalize rdN s = N at *
  generalize rdN t = M at *
  generalize sL (rdR s) = R at *
  generalize sL (rdR t) = T at *
  generalize rdP s = P at *
  generalize rdP t = Q at *
  generalize cmN (P.map sL) (Q.map sL) = k at *
  unfold MgPost
  by_cases h4 : k < P.length ∧ k < Q.length
  · rw [if_pos h4]
    have a1 : decide ((k : Int) < (P.length : Int)) = true := decide_eq_true (by omega)
    have a1' : decide (k < P.length) = true := decide_eq_true h4.1
    have a2 : decide ((k : Int) < (Q.length : Int)) = true := decide_eq_true (by omega)
    have a2' : decide (k < Q.length) = true := decide_eq_true h4.2
    clear h4 hcl L1 L2
    generalize sL s = s1 at *
    generalize sL t = t1 at *
    go_enter Tryd.func14, Tryd.ntmps14
    go_wp2_with fail
    refine H1.out.mono ?_
    rintro e w1 ⟨A1, c1, rfl, hc1, r1, hb⟩
    have B1 := Lib.hid hb
    have R1 := Lib.hid r1
    clear hb r1 hc1
    go_wp2_with fail
    refine (H2.out w1).mono ?_
    rintro e w2 ⟨A2, c2, rfl, hc2, r2, hb⟩
    have B2 := Lib.hid (B1.out.trans (hb.mono B1.out.size))
    have R12 := Lib.hid ((R1.out.below hb (Nat.le_refl _)).more hb.size)
    have R2 := Lib.hid r2
    clear hb r2 hc2
    go_wp2_with fail
    refine (HC.out A1 A2 c1 c2 w2 R12.out R2.out).mono ?_
    rintro e w3 ⟨rfl, m, rfl⟩
    have B3 := Lib.hid (bdDN B2.out m)
    generalize w2.drewN m = w3 at *
    go_wp2_with fail
    go_ret3
    exact ⟨rfl, B3.out⟩
  · rw [if_neg h4]
    by_cases h5 : P.length < Q.length
    · rw [if_pos h5]
      have hk : k = P.length := by omega
      have a1 : decide ((P.length : Int) < (P.length : Int)) = false := decide_eq_false (by omega)
      have a1' : decide (P.length < P.length) = false := decide_eq_false (by omega)
      have a3 : decide ((P.length : Int) < (Q.length : Int)) = true := decide_eq_true (by omega)
      have a3' : decide (P.length < Q.length) = true := decide_eq_true h5
      subst hk
      clear h4 hcl L1 L2 h5
      generalize sL s = s1 at *
      go_enter Tryd.func14, Tryd.ntmps14
      go_wp2_with fail
      refine H1.out.mono ?_
      rintro e w1 ⟨A1, c1, rfl, hc1, r1, hb⟩
      have B1 := Lib.hid hb
      have R1 := Lib.hid r1
      clear hb r1 hc1
      go_wp2_with fail
      refine (H2.out w1).mono ?_
      rintro e w2 ⟨A2, c2, rfl, hc2, r2, hb⟩
      have B2 := Lib.hid (B1.out.trans (hb.mono B1.out.size))
      have R12 := Lib.hid ((R1.out.below hb (Nat.le_refl _)).more hb.size)
      have R2 := Lib.hid r2
      clear hb r2 hc2
      go_wp2_with fail
      refine (HC.out A1 A2 c1 c2 w2 R12.out R2.out).mono ?_
      rintro e w3 ⟨rfl, m, rfl⟩
      have B3 := Lib.hid (bdDN B2.out m)
      generalize w2.drewN m = w3 at *
      go_wp2_with fail
      go_ret3
      exact ⟨rfl, B3.out⟩
    · rw [if_neg h5]
      have hk : k = Q.length := by omega
      have a2 : decide ((Q.length : Int) < (Q.length : Int)) = false := decide_eq_false (by omega)
      have a2' : decide (Q.length < Q.length) = false := decide_eq_false (by omega)
      have a3 : decide ((P.length : Int) < (Q.length : Int)) = false := decide_eq_false (by omega)
      have a3' : decide (P.length < Q.length) = false := decide_eq_false h5
      subst hk
      generalize hq : decide ((Q.length : Int) < (P.length : Int)) = qb
      have hq' : decide (Q.length < P.length) = qb := by rw [← hq, decide_eq_decide]; omega
      clear h4 hcl L1 L2 h5
      generalize sL t = t1 at *
      cases qb
      all_goals (
        go_enter Tryd.func14, Tryd.ntmps14
        go_wp2_with fail
        refine H1.out.mono ?_
        rintro e w1 ⟨A1, c1, rfl, hc1, r1, hb⟩
        have B1 := Lib.hid hb
        have R1 := Lib.hid r1
        clear hb r1 hc1
        go_wp2_with fail
        refine (H2.out w1).mono ?_
        rintro e w2 ⟨A2, c2, rfl, hc2, r2, hb⟩
        have B2 := Lib.hid (B1.out.trans (hb.mono B1.out.size))
        have R12 := Lib.hid ((R1.out.below hb (Nat.le_refl _)).more hb.size)
        have R2 := Lib.hid r2
        clear hb r2 hc2
        go_wp2_with fail
        refine (HC.out A1 A2 c1 c2 w2 R12.out R2.out).mono ?_
        rintro e w3 ⟨rfl, m, rfl⟩
        have B3 := Lib.hid (bdDN B2.out m)
        generalize w2.drewN m = w3 at *
        go_wp2_with fail
        go_ret3
        exact ⟨rfl, B3.out⟩)
end Go.Proofs.YtklhjiagkkhldaaDoor

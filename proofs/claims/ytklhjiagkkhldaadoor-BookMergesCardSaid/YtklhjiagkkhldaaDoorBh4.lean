/-
  What is read of a book, in the reference: the walks of ReadAll and Read. Condition: sizes.
-/
import Derived.Test.YtklhjiagkkhldaaDoorBh3
namespace Go.Proofs.YtklhjiagkkhldaaDoor
open Go.RowKit
set_option linter.unusedVariables false

theorem results_tmp4 {fn : Func} {t u v x : Tmp} (h : fn.results = #[.tmp t, .tmp u, .tmp v, .tmp x]) (tmps : Array Value) (P : Program) (w : World) :
    (results fn tmps).run P w = .ok (.tuple #[tmps.getD t undef, tmps.getD u undef, tmps.getD v undef, tmps.getD x undef]) w := by
  simp [results, h]
/-- The first line's numbers, and what stands behind it. -/
noncomputable def rdH (t : List UInt8) : Option ((Nat × Nat) × List UInt8) := match lnO t with
  | some (f, r) => match hdO f with
    | some p => some (p, r)
    | none => none
  | none => none
noncomputable def rdE (t : List UInt8) : Int := match rdH t with
  | none => 2
  | some (p, r) => if (tk p.1 r).1.length = p.1 ∧ rt (smsL ((tk p.1 r).1.map sL)) ≠ (p.2 : Int) then 7 else 0
noncomputable def rdP (t : List UInt8) : List (List UInt8) := if rdE t = 0 then (match rdH t with | some (p, r) => (tk p.1 r).1 | none => []) else []
noncomputable def rdN (t : List UInt8) : Int := if rdE t = 0 then (match rdH t with | some (p, r) => (p.1 : Int) | none => -1) else -1
noncomputable def rdR (t : List UInt8) : List UInt8 := if rdE t = 0 then (match rdH t with | some (p, r) => (tk p.1 r).2 | none => []) else []
theorem rd_bad {t : List UInt8} (h : rdE t ≠ 0) : rdP t = [] ∧ rdN t = -1 ∧ rdR t = [] := ⟨if_neg h, if_neg h, if_neg h⟩
theorem rd_none {t : List UInt8} (h : rdH t = none) : rdE t = 2 := by unfold rdE; rw [h]
theorem rdH_ln {t : List UInt8} (h : lnO t = none) : rdH t = none := by unfold rdH; rw [h]
theorem rdH_hd {t f r : List UInt8} (h : lnO t = some (f, r)) (h2 : hdO f = none) : rdH t = none := by unfold rdH; rw [h]; simp only; rw [h2]
theorem rdH_some {t f r : List UInt8} {n x : Nat} (h : lnO t = some (f, r)) (h2 : hdO f = some (n, x)) : rdH t = some ((n, x), r) := by unfold rdH; rw [h]; simp only; rw [h2]
theorem rd_some {t r : List UInt8} {n x : Nat} {P : List (List UInt8)} {q : List UInt8} (h : rdH t = some ((n, x), r)) (ht : tk n r = (P, q)) (h0 : ¬ (P.length = n ∧ rt (smsL (P.map sL)) ≠ (x : Int))) : rdE t = 0 ∧ rdP t = P ∧ rdN t = n ∧ rdR t = q := by
  have hE : rdE t = 0 := by unfold rdE; rw [h]; simp only; rw [ht, if_neg h0]
  refine ⟨hE, ?_, ?_, ?_⟩
  · unfold rdP; rw [if_pos hE, h]; simp only; rw [ht]
  · unfold rdN; rw [if_pos hE, h]
  · unfold rdR; rw [if_pos hE, h]; simp only; rw [ht]
theorem rd_seven {t r : List UInt8} {n x : Nat} {P : List (List UInt8)} {q : List UInt8} (h : rdH t = some ((n, x), r)) (ht : tk n r = (P, q)) (h0 : P.length = n ∧ rt (smsL (P.map sL)) ≠ (x : Int)) : rdE t = 7 := by
  unfold rdE; rw [h]; simp only; rw [ht, if_pos h0]
/-- head and what a first line is. -/
theorem hd_link (f : List UInt8) : (hwB (sL (f ++ [10])) = false ∧ hdO f = none) ∨ (∃ n x : Nat, hwB (sL (f ++ [10])) = true ∧ hdO f = some (n, x) ∧ hwN (sL (f ++ [10])) = n ∧ hwX (sL (f ++ [10])) = x ∧ n ≤ 64 ∧ x < 2147483647) := by
  cases hb : hwB (sL (f ++ [10])) with
  | false =>
    refine .inl ⟨rfl, hdO_none.2 fun n x hh => ?_⟩
    have := (hw_of (s := sL (f ++ [10])) hh.1 hh.2.1 (by rw [bl_sL, hh.2.2]; rfl)).1
    rw [hb] at this
    cases this
  | true =>
    obtain ⟨n, x, h1, h2, h3, h4, h5⟩ := hw_ok hb
    rw [bl_sL] at h5
    exact .inr ⟨n, x, rfl, hdO_some.2 ⟨h3, h4, List.append_cancel_right h5⟩, h1, h2, h3, h4⟩
theorem lnV_some {t f r : List UInt8} (h : lnO t = some (f, r)) : lnV (sL t) = sL (f ++ [10]) ∧ lnB (sL t) = true := by
  unfold lnV lnB
  rw [bl_sL, h]
  exact ⟨rfl, rfl⟩
theorem lnV_none {t : List UInt8} (h : lnO t = none) : lnV (sL t) = sL t ∧ lnB (sL t) = false := by
  unfold lnV lnB
  rw [bl_sL, h]
  exact ⟨rfl, rfl⟩
theorem ext_rest {t f r : List UInt8} (h : lnO t = some (f, r)) : (sL t).extract (sL (f ++ [10])).size (sL t).size = sL r := by
  refine bl_inj ?_
  rw [bl_extract, bl_sL, bl_sL, sL_size, sL_size, (lnO_some.1 h).1]
  have e1 : (f ++ [10]).length = f.length + 1 := by simp
  have e2 : (f ++ 10 :: r).length = f.length + 1 + r.length := by simp; omega
  have e3 : f ++ 10 :: r = (f ++ [10]) ++ r := by simp
  rw [e1, e2, e3, ← e1, List.drop_left, e1, List.take_of_length_le (by omega)]
theorem ext_front (f : List UInt8) : (sL (f ++ [10])).extract 0 f.length = sL f := by
  refine bl_inj ?_
  rw [bl_extract, bl_sL, bl_sL, List.drop_zero, Nat.sub_zero, List.take_left]
theorem tk_step {n j : Nat} {r r' f q : List UInt8} {P : List (List UInt8)} (h : tk n r = (P ++ (tk (n - j) r').1, (tk (n - j) r').2)) (hj : j < n) (hl : lnO r' = some (f, q)) (hp : pgl f = true) : tk n r = ((P ++ [f]) ++ (tk (n - (j + 1)) q).1, (tk (n - (j + 1)) q).2) := by
  rw [h, show n - j = (n - (j + 1)) + 1 by omega, tk_good hl hp]
  simp
theorem tk_stop {n j : Nat} {r r' : List UInt8} {P : List (List UInt8)} (h : tk n r = (P ++ (tk (n - j) r').1, (tk (n - j) r').2)) (he : tk (n - j) r' = ([], r')) : tk n r = (P, r') := by
  rw [h, he, List.append_nil]
theorem wr64 {x : Int} (h0 : 0 ≤ x) (h1 : x ≤ 9000) : wrap64 x = x := by unfold wrap64; omega
def lenV (u : Value) : Nat := match u with | .slice _ m _ => m | _ => 0
set_option maxRecDepth 8000 in
set_option maxHeartbeats 8000000 in
theorem ReadAll_any (t : List UInt8) (w : World) (hsz : t.length ≤ 9000) :
    Calls Tryd.prog 27 #[.string (sL t)] w fun e w' => ∃ A' c', e = .returned (.tuple #[.slice A' (rdP t).length c', .int .i64 (rdN t), .string (sL (rdR t)), .int .i64 (rdE t)]) ∧ (rdP t).length ≤ c' ∧ Rd w' w'.heap.size A' (txl (rdP t)) ∧ Below w.heap.size w w' := by
  have HL := Lib.hid (line_any (sL t) w (by rw [sL_size]; omega))
  cases hln : lnO t with
  | none =>
    have hE := rd_none (rdH_ln hln)
    have hb := rd_bad (t := t) (by rw [hE]; decide)
    rw [(lnV_none hln).1, (lnV_none hln).2] at HL
    have HH := Lib.hid (head_any (sL t) w (by rw [sL_size]; omega))
    rw [hE, hb.1, hb.2.1, hb.2.2]
    generalize hwN (sL t) = a at *
    generalize hwX (sL t) = b at *
    generalize hwB (sL t) = c at *
    generalize sL t = s at *
    clear hE hb hln
    go_enter Tryd.func27, Tryd.ntmps27
    go_wp2_with fail
    refine (HL.out).mono ?_
    rintro e w' ⟨rfl, rfl⟩
    go_wp2_with fail
    refine HH.out.mono ?_
    rintro e w1 ⟨rfl, hb⟩
    have B1 := Lib.hid hb
    clear hb
    go_wp2_with fail
    (try simp only [Exit.inBlock, Exit.then])
    refine bodyPost_ret (results_tmp4 rfl _ _ _) rfl ?_
    exact ⟨none, 0, rfl, Nat.le_refl _, Rd.nil_, B1.out⟩
  | some p =>
    obtain ⟨f, r⟩ := p
    rw [(lnV_some hln).1, (lnV_some hln).2] at HL
    have hlen := lnO_len hln
    have HH := Lib.hid (head_any (sL (f ++ [10])) w (by rw [sL_size]; simp; omega))
    rcases hd_link f with ⟨hwb, hhd⟩ | ⟨n, x, hwb, hhd, hwn, hwx, hn64, hx⟩
    · have hE := rd_none (rdH_hd hln hhd)
      have hb := rd_bad (t := t) (by rw [hE]; decide)
      rw [hwb] at HH
      rw [hE, hb.1, hb.2.1, hb.2.2]
      generalize hwN (sL (f ++ [10])) = a at *
      generalize hwX (sL (f ++ [10])) = b at *
      generalize sL (f ++ [10]) = s1 at *
      generalize sL t = s at *
      clear hE hb hln hwb hhd hlen
      go_enter Tryd.func27, Tryd.ntmps27
      go_wp2_with fail
      refine (HL.out).mono ?_
      rintro e w' ⟨rfl, rfl⟩
      go_wp2_with fail
      refine HH.out.mono ?_
      rintro e w1 ⟨rfl, hb⟩
      have B1 := Lib.hid hb
      clear hb
      go_wp2_with fail
      (try simp only [Exit.inBlock, Exit.then])
      refine bodyPost_ret (results_tmp4 rfl _ _ _) rfl ?_
      exact ⟨none, 0, rfl, Nat.le_refl _, Rd.nil_, B1.out⟩
    · have hH := rdH_some hln hhd
      rw [hwb, hwn, hwx] at HH
      have hext := ext_rest hln
      have hz : (sL (f ++ [10])).size ≤ (sL t).size := by rw [sL_size, sL_size, hlen]; simp
      have hr9 : r.length ≤ 9000 := by omega
      have HS0 := Lib.hid (fun P q ht h0 => rd_some (t := t) (P := P) (q := q) hH ht h0)
      have HS7 := Lib.hid (fun P q ht h0 => rd_seven (t := t) (P := P) (q := q) hH ht h0)
      have HBad := Lib.hid (rd_bad (t := t))
      have hzi : ((sL (f ++ [10])).size : Int) ≤ ((sL t).size : Int) := by omega
      have hzt : (sL t).size ≤ 9000 := by rw [sL_size]; exact hsz
      generalize sL (f ++ [10]) = s1 at *
      generalize sL t = s at *
      clear hln hwb hhd hwn hwx hlen hH
      go_enter Tryd.func27, Tryd.ntmps27
      go_wp2_with fail
      refine (HL.out).mono ?_
      rintro e w' ⟨rfl, rfl⟩
      go_wp2_with fail
      refine HH.out.mono ?_
      rintro e w1 ⟨rfl, hb⟩
      have B1 := Lib.hid hb
      clear hb
      have b0 : (0 : Int) ≤ (s1.size : Int) := by omega
      go_wp2_with fail
      clear hext hz hzi b0 hzt
      go_loopw [11, 12] (fun v u wr => ∃ (P : List (List UInt8)) (r' : List UInt8) (A' : Option Addr) (c' : Nat), P.length ≤ n ∧ r'.length ≤ 9000 ∧ v = .string (sL r') ∧ u = .slice A' P.length c' ∧ tk n r = (P ++ (tk (n - P.length) r').1, (tk (n - P.length) r').2) ∧ wr.ownsRow w1.heap.size 9 1 (.slice A' P.length c') P.length (txl P) ∧ (∀ l ∈ P, l.length ≤ 60) ∧ Below w1.heap.size w1 wr) (fun _ u _ => 64 - lenV u)
      case atStart => exact ⟨[], r, none, 0, by simp, hr9, rfl, rfl, by simp, World.ownsRow_nil _ _ _ _, by simp, Below.refl _ _⟩
      case round =>
        obtain ⟨P, r', A', c', hPn, hr', rfl, rfl, htk, hown, hP60, hbl⟩ := hrel
        have OW := Lib.hid hown
        have B2 := Lib.hid hbl
        have HT := Lib.hid htk
        have HP60 := Lib.hid hP60
        clear hown hbl htk hP60
        by_cases hlt : P.length < n
        · have e1 : decide ((P.length : Int) < (n : Int)) = true := decide_eq_true (by omega)
          have e1' : decide (P.length < n) = true := decide_eq_true hlt
          have HLr := Lib.hid (line_any (sL r') wr (by rw [sL_size]; omega))
          obtain ⟨s2, hs2⟩ : ∃ s2, sL r' = s2 := ⟨_, rfl⟩
          have H2 := Lib.hid hs2
          cases hl2 : lnO r' with
          | none =>
            have HF := Lib.hid (HS0.out P r' (tk_stop HT.out (tk_none hl2)) (by omega))
            rw [(lnV_none hl2).1, (lnV_none hl2).2] at HLr
            rw [hs2] at HLr ⊢
            clear hl2 hs2 hlt
            go_wp2_with fail
            refine HLr.out.mono ?_
            rintro e w' ⟨rfl, rfl⟩
            go_wp2_with fail
            (try simp only [Exit.inBlock, Exit.then])
            refine bodyPost_ret (results_tmp4 rfl _ _ _) rfl ?_
            exact ⟨A', c', by rw [HF.out.1, HF.out.2.1, HF.out.2.2.1, HF.out.2.2.2, H2.out]; rfl, by rw [HF.out.2.1]; obtain ⟨_, _, h, hh⟩ := own_form OW.out; cases h; exact hh, by rw [HF.out.2.1]; exact Rd.of_own OW.out, B1.out.trans (B2.out.mono B1.out.size)⟩
          | some p2 =>
            obtain ⟨g, q⟩ := p2
            have hln2 := lnO_len hl2
            rw [(lnV_some hl2).1, (lnV_some hl2).2] at HLr
            have hext2 := ext_rest hl2
            have hfr := ext_front g
            have hz1 : (sL (g ++ [10])).size = g.length + 1 := by rw [sL_size]; simp
            have hz2 : (sL (g ++ [10])).size ≤ (sL r').size := by rw [sL_size, sL_size, hln2]; simp
            have hz3 : (sL r').size ≤ 9000 := by rw [sL_size]; exact hr'
            have HPg := Lib.hid (fun w => rIsPage_any (sL g) w (by rw [sL_size]; omega))
            rw [pgB_pgl, bl_sL] at HPg
            have hgz : (sL g).size ≤ 9000 := by rw [sL_size]; omega
            obtain ⟨m, hm⟩ : ∃ m, g.length = m := ⟨_, rfl⟩
            rw [hm] at hfr hz1
            rw [hs2] at hext2 hz2 hz3 HLr ⊢
            generalize sL (g ++ [10]) = s3 at *
            have b1 : (0 : Int) ≤ (m : Int) := by omega
            have b2 : (m : Int) ≤ (s3.size : Int) := by omega
            have b2' : m ≤ s3.size := by omega
            have b3 : (0 : Int) ≤ (s3.size : Int) := by omega
            have b4 : (s3.size : Int) ≤ (s2.size : Int) := by omega
            have hm9 : (m : Int) ≤ 9000 := by omega
            have HQ := Lib.hid (show wrap64 (m : Int) = (m : Int) ∧ wrap64 ((s3.size : Int) - 1) = (m : Int) from by
              have q0 : (s3.size : Int) - 1 = (m : Int) := by rw [hz1]; simp
              have q1w := wr64 (Int.natCast_nonneg m) hm9
              exact ⟨q1w, by rw [q0, q1w]⟩)
            cases hpg : pgl g
            · rw [hpg] at HPg
              have HF := Lib.hid (HS0.out P r' (tk_stop HT.out (tk_bad hl2 hpg)) (by omega))
              clear hl2 hs2 hlt hpg hext2 hz1 hz2 hz3 hm hln2 hm9
              have q1w := HQ.out.1
              have q1 := HQ.out.2
              go_wp2_with fail
              refine HLr.out.mono ?_
              rintro e w' ⟨rfl, rfl⟩
              go_wp2_with fail
              refine (HPg.out _).mono ?_
              rintro e w' ⟨rfl, rfl⟩
              go_wp2_with fail
              (try simp only [Exit.inBlock, Exit.then])
              refine bodyPost_ret (results_tmp4 rfl _ _ _) rfl ?_
              exact ⟨A', c', by rw [HF.out.1, HF.out.2.1, HF.out.2.2.1, HF.out.2.2.2, H2.out]; rfl, by rw [HF.out.2.1]; obtain ⟨_, _, h, hh⟩ := own_form OW.out; cases h; exact hh, by rw [HF.out.2.1]; exact Rd.of_own OW.out, B1.out.trans (B2.out.mono B1.out.size)⟩
            · rw [hpg] at HPg
              have HTn := Lib.hid (tk_step HT.out hlt hl2 hpg)
              have HP2 := Lib.hid (show ∀ l ∈ P ++ [g], l.length ≤ 60 from fun l hl => by
                rcases List.mem_append.1 hl with hl | hl
                · exact HP60.out l hl
                · rw [List.mem_singleton.1 hl]
                  unfold pgl at hpg
                  simp only [Bool.and_eq_true, decide_eq_true_eq] at hpg
                  exact hpg.1.2)
              have hq9 : q.length ≤ 9000 := by omega
              obtain ⟨y, hy⟩ : ∃ y, sL g = y := ⟨_, rfl⟩
              have HY := Lib.hid hy
              rw [hy] at hfr HPg hgz
              obtain ⟨z, hz⟩ : ∃ z, sL q = z := ⟨_, rfl⟩
              have HZ := Lib.hid hz
              rw [hz] at hext2
              obtain ⟨N, hN⟩ : ∃ N, P.length = N := ⟨_, rfl⟩
              have HN := Lib.hid hN
              rw [hN] at hlt e1 e1' OW hPn ⊢
              have HBy := Lib.hid (show (N + 1) * 16 ≤ 140737488355328 by omega)
              have HLn := Lib.hid (show (P ++ [g]).length ≤ n by rw [List.length_append, hN]; exact hlt)
              have HMe := Lib.hid (show 64 - (N + 1) < 64 - N by omega)
              have HQ9 := Lib.hid hq9
              clear hl2 hs2 hpg hz1 hz2 hz3 hm hln2 hy hz hN hm9 hlt hPn hgz hq9 hr'
              have q1w := HQ.out.1
              have q1 := HQ.out.2
              go_wp2_with fail
              refine HLr.out.mono ?_
              rintro e w' ⟨rfl, rfl⟩
              go_wp2_with fail
              refine (HPg.out _).mono ?_
              rintro e w' ⟨rfl, rfl⟩
              go_wp2_with ((with_reducible show wpList _ _ _ (⟨some 66, _, _, _, _, _⟩ :: _) _ _); refine app eTxt rfl (.tmp 59) (.tmp 65) rfl rfl (OW.out.alloc _) (B2.out.alloc B2.out.size (.cells #[.string y] 9)) (size_alloc' B2.out.size _) rfl (Rd.one wr (.string y) 9 (Nat.lt_succ_self _)) (by simp) (txts_one [y]) (N + 1) rfl HBy.out ?_; intro A2 c2 w3 o2 b2 _ _; have O2 := Lib.hid (show w3.ownsRow w1.heap.size 9 1 (.slice A2 (N + 1) c2) (N + 1) (txl (P ++ [g])) by rw [txl_app, show txl [g] = [Value.string y] by rw [← HY.out]; rfl]; exact o2); have B4 := Lib.hid b2; clear o2 b2)
              go_roundw
              case rel => exact ⟨P ++ [g], q, A2, c2, HLn.out, HQ9.out, by rw [HZ.out], by rw [List.length_append, HN.out]; rfl, by rw [List.length_append]; exact HTn.out, by rw [List.length_append, HN.out]; exact O2.out, HP2.out, B4.out⟩
              case measure => exact HMe.out
        · have hPe : P.length = n := by omega
          have hts := HT.out
          rw [hPe, Nat.sub_self] at hts
          have hts2 : tk n r = (P, r') := by rw [hts]; simp [tk]
          have e1 : decide ((P.length : Int) < (n : Int)) = false := decide_eq_false (by omega)
          have e1' : decide (P.length < n) = false := decide_eq_false hlt
          have hSz : Sz (P.map sL) := fun s hs => by
            obtain ⟨l, hl, rfl⟩ := List.mem_map.1 hs
            have := HP60.out l hl
            rw [sL_size]; omega
          have HLe := Lib.hid (leaves_any A' c' (P.map sL) wr (show Rd wr wr.heap.size A' (txts (P.map sL)) from Rd.of_own OW.out) hSz (by rw [List.length_map]; omega))
          rw [List.length_map] at HLe
          have HRo := Lib.hid (fun A2 c2 w2 h1 h2 => root_any P.length (smsL (P.map sL)) A2 c2 w2 (by rw [smsL_len, List.length_map]) (by omega) (smsL_sm _) h1 h2)
          have HOWn := Lib.hid (own_form OW.out)
          by_cases hrt : rt (smsL (P.map sL)) = (x : Int)
          · have HF := Lib.hid (HS0.out P r' hts2 (by intro h; exact h.2 hrt))
            rw [hrt] at HRo
            have e2 : ((x : Int) != (x : Int)) = false := by simp
            have e2' : (x != x) = false := by simp
            clear hlt hts hts2 hrt hSz hPe
            go_wp2_with fail
            refine HLe.out.mono ?_
            rintro e w3 ⟨A3, c3, rfl, hc3, hr3, hb⟩
            have B3 := Lib.hid (B2.out.trans (hb.mono B2.out.size))
            have OW3 := Lib.hid (own_below OW.out hb)
            have R3 := Lib.hid hr3
            clear hb hr3
            go_wp2_with fail
            refine (HRo.out A3 c3 w3 hc3 R3.out).mono ?_
            rintro e w4 ⟨rfl, mm, rfl⟩
            go_wp2_with fail
            (try simp only [Exit.inBlock, Exit.then])
            refine bodyPost_ret (results_tmp4 rfl _ _ _) rfl ?_
            exact ⟨A', c', by rw [HF.out.1, HF.out.2.1, HF.out.2.2.1, HF.out.2.2.2]; rfl, by rw [HF.out.2.1]; obtain ⟨_, _, h, hh⟩ := own_form OW.out; cases h; exact hh, by rw [HF.out.2.1]; exact Rd.of_own OW3.out, bdDN (B1.out.trans (B3.out.mono B1.out.size)) mm⟩
          · have hE := HS7.out P r' hts2 ⟨hPe, hrt⟩
            have HF := Lib.hid (HBad.out (by rw [hE]; decide))
            have HE := Lib.hid hE
            have e2 : (rt (smsL (P.map sL)) != (x : Int)) = true := by simpa using hrt
            generalize rt (smsL (P.map sL)) = y at *
            clear hlt hts hts2 hrt hSz hE hPe
            go_wp2_with fail
            refine HLe.out.mono ?_
            rintro e w3 ⟨A3, c3, rfl, hc3, hr3, hb⟩
            have B3 := Lib.hid (B2.out.trans (hb.mono B2.out.size))
            have R3 := Lib.hid hr3
            clear hb hr3
            go_wp2_with fail
            refine (HRo.out A3 c3 w3 hc3 R3.out).mono ?_
            rintro e w4 ⟨rfl, mm, rfl⟩
            go_wp2_with fail
            (try simp only [Exit.inBlock, Exit.then])
            refine bodyPost_ret (results_tmp4 rfl _ _ _) rfl ?_
            exact ⟨none, 0, by rw [HF.out.1, HF.out.2.1, HF.out.2.2, HE.out]; rfl, by rw [HF.out.1]; exact Nat.le_refl _, by rw [HF.out.1]; exact Rd.nil_, bdDN (B1.out.trans (B3.out.mono B1.out.size)) mm⟩
theorem rd_err (t : List UInt8) : (decide (rdN t < 0) = true ∧ rdE t ≠ 0) ∨ (decide (rdN t < 0) = false ∧ rdE t = 0) := by
  by_cases h : rdE t = 0
  · refine .inr ⟨decide_eq_false ?_, h⟩
    unfold rdN
    rw [if_pos h]
    cases hh : rdH t with
    | none => rw [rd_none hh] at h; cases h
    | some p => simp
  · exact .inl ⟨decide_eq_true (by rw [(rd_bad h).2.1]; decide), h⟩
set_option maxRecDepth 4000 in
set_option maxHeartbeats 2000000 in
theorem rRead_any (t : List UInt8) (w : World) (hsz : t.length ≤ 9000) :
    Calls Tryd.prog 12 #[.string (sL t)] w fun e w' => ∃ A' c', e = .returned (.tuple #[.slice A' (rdP t).length c', .string (sL (rdR t)), .int .i64 (rdE t)]) ∧ (rdP t).length ≤ c' ∧ Rd w' w'.heap.size A' (txl (rdP t)) ∧ Below w.heap.size w w' := by
  have HA := Lib.hid (ReadAll_any t w hsz)
  rcases rd_err t with ⟨e1, hE⟩ | ⟨e1, hE⟩
  · have HB := Lib.hid (rd_bad hE)
    generalize rdN t = n at *
    generalize rdE t = E at *
    rw [HB.out.1, HB.out.2.2] at HA ⊢
    generalize sL t = s at *
    clear hE HB hsz
    go_enter Tryd.func12, Tryd.ntmps12
    go_wp2_with fail
    refine HA.out.mono ?_
    rintro e w1 ⟨A1, c1, rfl, hc1, hr1, hb⟩
    have B1 := Lib.hid hb
    clear hb hr1 hc1
    go_wp2_with fail
    go_ret3
    exact ⟨none, 0, rfl, Nat.le_refl _, Rd.nil_, B1.out⟩
  · generalize rdN t = n at *
    generalize rdE t = E at *
    generalize rdP t = P at *
    generalize sL (rdR t) = R at *
    generalize sL t = s at *
    clear hE hsz
    go_enter Tryd.func12, Tryd.ntmps12
    go_wp2_with fail
    refine HA.out.mono ?_
    rintro e w1 ⟨A1, c1, rfl, hc1, hr1, hb⟩
    have B1 := Lib.hid hb
    have R1 := Lib.hid hr1
    have HC1 := Lib.hid hc1
    clear hb hr1 hc1
    go_wp2_with fail
    go_ret3
    exact ⟨A1, c1, rfl, HC1.out, R1.out, B1.out⟩
end Go.Proofs.YtklhjiagkkhldaaDoor

/-
  Texts merged into one (Tr1, Rm4): contracts of the functions of package lure, what is reckoned of games. Conditions: as each says.
-/
import Derived.Test.YtoenecgjiejljaaDoorMt25
import Derived.Test.YtoenecgjiejljaaDoorMt26
import Derived.Test.YtoenecgjiejljaaDoorMt21
import Derived.Test.YtoenecgjiejljaaDoorMt17
namespace Go.Proofs.YtoenecgjiejljaaDoor
open Go.RowKit
set_option linter.unusedVariables false

theorem lt_pre (h : List UInt8) {x y : List UInt8} (hxy : x < y) : h ++ x < h ++ y := by
  induction h with
  | nil => exact hxy
  | cons c h ih => exact List.cons_lt_cons_iff.2 (.inr ⟨rfl, ih⟩)
theorem lt_app : ∀ {a b : List UInt8} (x y : List UInt8), a.length = b.length → a < b → a ++ x < b ++ y
  | [], [], _, _, _, h => absurd h (List.lt_irrefl _)
  | [], _ :: _, _, _, hl, _ => by simp at hl
  | _ :: _, [], _, _, hl, _ => by simp at hl
  | a :: l, b :: m, x, y, hl, h => by
    rcases List.cons_lt_cons_iff.1 h with h1 | ⟨h1, h2⟩
    · exact List.cons_lt_cons_iff.2 (.inl h1)
    · exact List.cons_lt_cons_iff.2 (.inr ⟨h1, lt_app x y (by simpa using hl) h2⟩)
theorem one_lt {a b : UInt8} (h : a.toNat < b.toNat) : [a] < [b] := List.cons_lt_cons_iff.2 (.inl (UInt8.lt_iff_toNat_lt.2 h))
theorem dgt_nat {d : Nat} (h : d < 10) : (UInt8.ofNat (48 + d)).toNat = 48 + d := by simp; omega
theorem padK_lt : ∀ (k m n : Nat), m < n → n < 10 ^ k → padK k m < padK k n
  | 0, m, n, h, hn => by simp at hn; omega
  | k + 1, m, n, h, hn => by
    have hn' : n / 10 < 10 ^ k := by rw [Nat.pow_succ] at hn; omega
    unfold padK
    by_cases hd : m / 10 < n / 10
    · exact lt_app _ _ (by rw [padK_len, padK_len]) (padK_lt k _ _ hd hn')
    · have e : m / 10 = n / 10 := by omega
      rw [e]
      refine lt_pre _ (one_lt ?_)
      rw [dgt_nat (by omega), dgt_nat (by omega)]
      omega
/-- The ring of the next number comes later. -/
theorem mkR_lt (s : ByteArray) {m n : Nat} (h : m < n) (hn : n ≤ 99999) : bl (mkR s m) < bl (mkR s n) := by
  unfold mkR
  rw [bl_sL, bl_sL]
  refine lt_pre _ ?_
  unfold rgT
  exact lt_app _ _ (by rw [padK_len, padK_len]) (padK_lt 5 m n h (by simpa using Nat.lt_succ_of_le hn))
/-- A ring counts as one worn ring, and fits itself. -/
theorem ring_one {s : ByteArray} (h : validE s = 0) : ctE s = 0 ∧ ctV s = 1 := by
  have hf := valid_form h
  have hl : (tailD s).length = 6 := tailK_length s 6
  have hr : wT (bl (headB s)) (tailD s) = s := by
    rw [wT_dig (dig_tail hf)]
    unfold rT
    rw [← ring_bl hf, sL_bl]
  have h0 : sumL (tailD s) = 0 := by
    unfold validE at h
    rw [if_pos hf] at h
    by_cases hh : sumL (tailD s) = 0
    · exact hh
    · rw [if_neg hh] at h; omega
  obtain ⟨a, b⟩ := wT_count (ring_hd hf) hl (wdig_of (dig_tail hf))
  rw [hr] at a b
  refine ⟨a, ?_⟩
  rw [b]
  rcases wyl_zero (wdig_of (dig_tail hf)) (by omega) with ⟨_, _, h3⟩ | ⟨_, h2, _⟩ | ⟨h1, _⟩
  · rw [h3]; rfl
  · exact absurd h0 h2
  · exact absurd (nW_digs (dig_tail hf)) h1
/-- The last two digits worn: ten rings fit, the first of them no later. -/
theorem ring_ten {hd : List UInt8} {D : List Int} (hh : Lett hd) (hD : D.length = 6) (hd' : ∀ x ∈ D, Dig x) (hs : sumL D = 0) :
    let W := wT hd (D.take 4 ++ [-1, -1])
    ctE W = 0 ∧ ctV W = 10 ∧ frB W = true ∧ (bl (frS W) < bl (rT hd D) ∨ frS W = rT hd D) := by
  obtain ⟨d0, d1, d2, d3, d4, d5, rfl⟩ : ∃ a b c d e f, D = [a, b, c, d, e, f] := by
    match D, hD with
    | [a, b, c, d, e, f], _ => exact ⟨a, b, c, d, e, f, rfl⟩
  have g0 := hd' d0 (by simp)
  have g1 := hd' d1 (by simp)
  have g2 := hd' d2 (by simp)
  have g3 := hd' d3 (by simp)
  have g4 := hd' d4 (by simp)
  have g5 := hd' d5 (by simp)
  have ha : ∀ x ∈ [d0, d1, d2, d3], Dig x := fun x hx => hd' x (by simp at hx ⊢; omega)
  have hM : ([d0, d1, d2, d3, d4, d5].take 4 ++ [-1, -1] : List Int) = [d0, d1, d2, d3] ++ [-1, -1] := rfl
  have hw : WDig ([d0, d1, d2, d3] ++ [-1, -1]) := fun x hx => by
    rcases List.mem_append.1 hx with hx | hx
    · exact .inr (ha x hx)
    · simp at hx; exact .inl hx
  have hn : nW ([d0, d1, d2, d3] ++ [-1, -1]) = 2 := by rw [nW_append, nW_digs ha]; rfl
  have hy : wyL ([d0, d1, d2, d3] ++ [-1, -1]) 0 = 10 := by
    rcases wyl_zero hw (by simp) with ⟨h1, _⟩ | ⟨h1, _⟩ | ⟨_, h1⟩
    · rw [hn] at h1; omega
    · rw [hn] at h1; omega
    · rw [h1, hn]
  show ctE (wT hd ([d0, d1, d2, d3, d4, d5].take 4 ++ [-1, -1])) = 0 ∧ _
  simp only [hM]
  obtain ⟨c1, c2⟩ := wT_count hh (by simp) hw
  obtain ⟨f1, f2⟩ := wT_first hh (by simp) hw (by rw [hy]; omega)
  refine ⟨c1, by rw [c2, hy]; rfl, f1, ?_⟩
  rw [f2]
  have hg : gr [] ([d0, d1, d2, d3] ++ [-1, -1]) = [d0, d1, d2, d3] ++ [0, (dst ([d0, d1, d2, d3] ++ [0]) [] : Int)] := by
    have := gr_split ([d0, d1, d2, d3] ++ [-1]) [] [] rfl
    rw [List.append_assoc] at this
    have e : fill0 ([d0, d1, d2, d3] ++ [-1]) = [d0, d1, d2, d3] ++ [0] := by
      unfold fill0
      rw [List.map_append]
      have : ∀ x ∈ [d0, d1, d2, d3], ¬ x < 0 := fun x hx => by have := (ha x hx).1; omega
      simp only [List.map_cons, List.map_nil, this d0 (by simp), this d1 (by simp), this d2 (by simp), this d3 (by simp), if_false]
      rfl
    rw [List.nil_append, e, List.append_assoc] at this
    exact this
  rw [hg]
  have hA : ∀ x ∈ [d0, d1, d2, d3] ++ [0], Dig x := fun x hx => by
    rcases List.mem_append.1 hx with hx | hx
    · exact ha x hx
    · simp at hx; rw [hx]; exact ⟨by decide, by decide⟩
  obtain ⟨t1, t2⟩ := dst_lt hA (fun x hx => by cases hx) (show ([] : List Int).length < 6 by simp) (b := [])
  generalize dst ([d0, d1, d2, d3] ++ [0]) [] = t at *
  have dt : Dig (t : Int) := ⟨by omega, by omega⟩
  by_cases h4 : d4 = 0
  · right
    subst h4
    have : (t : Int) = d5 := sum_wrong (a := [d0, d1, d2, d3] ++ [0]) (l := []) hA (fun x hx => by cases hx) dt g5 (by rw [t2]; exact hs.symm)
    rw [this]
    rfl
  · left
    unfold rT
    rw [bl_sL, bl_sL]
    refine lt_pre _ ?_
    show List.map dgB ([d0, d1, d2, d3] ++ [0, (t : Int)]) < List.map dgB ([d0, d1, d2, d3] ++ [d4, d5])
    rw [List.map_append, List.map_append]
    refine lt_pre _ (List.cons_lt_cons_iff.2 (.inl (UInt8.lt_iff_toNat_lt.2 ?_)))
    have h1 := dgB_num g4
    have h2 := dgB_num (show Dig 0 from ⟨by decide, by decide⟩)
    have := g4.1
    omega
/-- At each place one digit makes a ring: at least six are near to a text that is none. -/
theorem near_six {s : ByteArray} (hf : formB s false = true) (h : ¬ validE s = 0) : 6 ≤ (nrL s).length := by
  have hl : (tailD s).length = 6 := tailK_length s 6
  have hs := form_size hf
  have hh : (bl (headB s)).length = s.size - 6 := head_len
  have h0 : ¬ sumL (tailD s) = 0 := fun e => h (by unfold validE; rw [if_pos hf, if_pos e])
  unfold nrL
  rw [srt_len]
  unfold nrT
  rw [List.filter_append, List.length_append]
  have key : ∀ k, k ≤ 6 → k ≤ ((cgL (bl s) (s.size - 6) k).filter rgV).length := by
    intro k
    induction k with
    | zero => intro _; omega
    | succ k ih =>
      intro hk
      have ih := ih (by omega)
      rw [cgL_next, List.filter_append, List.length_append]
      have hD := dig_tail hf
      generalize hDD : tailD s = D at *
      have hkl : k < D.length := by omega
      have e : D = D.take k ++ D[k] :: D.drop (k + 1) := by rw [← List.drop_eq_getElem_cons hkl, List.take_append_drop]
      obtain ⟨t1, t2⟩ := dst_lt (a := D.take k) (b := D.drop (k + 1)) (fun x hx => hD x (List.mem_of_mem_take hx)) (fun x hx => hD x (List.mem_of_mem_drop hx)) (by rw [List.length_drop]; omega)
      generalize dst (D.take k) (D.drop (k + 1)) = t at *
      have e2 : D.set k (t : Int) = D.take k ++ (t : Int) :: D.drop (k + 1) := by rw [List.set_eq_take_append_cons_drop, if_pos hkl]
      rw [← e2] at t2
      have ec := (nrP_cg hf (k := k) (d := t) hh t1 []).1
      rw [hDD] at ec
      have hv : rgV (cg (bl s) (s.size - 6 + k) t) = true := by
        rw [rgV_rT (ring_hd hf) (by rw [List.length_set]; exact hl) (set_dig hD ⟨by omega, by omega⟩) ec, t2]
        rfl
      have hO : cgO (bl s) (s.size - 6 + k) t = true := by
        cases ho : cgO (bl s) (s.size - 6 + k) t with
        | true => rfl
        | false =>
          exfalso
          rw [(cg_self (u := bl s) (p := s.size - 6 + k) (d := t) (by rw [bl_len]; omega)).2 ho] at hv
          have : validE s = 0 := by
            have := of_decide_eq_true hv
            rw [sL_bl] at this
            exact this
          exact h this
      have : cg (bl s) (s.size - 6 + k) t ∈ (cgP (bl s) (s.size - 6 + k) 10).filter rgV := List.mem_filter.2 ⟨cgP_mem.2 ⟨t, t1, hO, rfl⟩, hv⟩
      have := List.length_pos_of_mem this
      omega
  have := key 6 (by omega)
  omega
theorem nrL_sorted {s : ByteArray} (h : 6 ≤ s.size) : (nrL s).Pairwise (· < ·) := by
  have hl : (bl s).length = (s.size - 6) + 6 := by rw [bl_len]; omega
  exact srt_sorted ((near_apart (bl s) (s.size - 6) hl).filter _)
theorem nrL_valid {s : ByteArray} {y : List UInt8} (h : y ∈ nrL s) : validE (sL y) = 0 ∧ y.length = s.size := by
  have h1 := (srt_mem _ y).1 h
  exact ⟨of_decide_eq_true (List.mem_filter.1 h1).2, nrT_size (List.mem_filter.1 h1).1⟩
end Go.Proofs.YtoenecgjiejljaaDoor
namespace Go.Proofs.YtoenecgjiejljaaDoor
open Go.RowKit
set_option linter.unusedVariables false

theorem nx_make {s : ByteArray} (h : validE s = 0) (h9 : ¬ numB s = 99999) : nxE s = 0 ∧ mkE (headB s) (numB s + 1) = 0 ∧ mkS (headB s) (numB s + 1) = nxS s := by
  have hf := valid_form h
  have hn := numB_le hf
  have e1 : nxE s = 0 := by unfold nxE; rw [if_pos h, if_neg h9]
  have e2 : mkE (headB s) (numB s + 1) = 0 := mkE_ok (head_series hf) (by omega) (by omega)
  refine ⟨e1, e2, ?_⟩
  unfold mkS nxS
  rw [if_pos e1, if_pos e2]
set_option maxRecDepth 8000 in
set_option maxHeartbeats 2000000 in
theorem Next_any (s : ByteArray) (w : World) (hsz : s.size ≤ 900) (hT : TabsR w) (hI : TbI w) :
    Calls Tryd.prog 16 #[.string s] w fun e w' => e = .returned (.tuple #[.string (nxS s), .int .i64 (nxE s)]) ∧ Below w.heap.size w w' := by
  have H1 := Lib.hid (rgSplit_any s w (by omega) hT)
  have HT := Lib.hid hT
  have HI := Lib.hid hI
  clear hT hI
  unfold splitS splitN at H1
  by_cases h0 : validE s = 0
  case neg =>
    have e1 : nxE s = validE s := if_neg h0
    have e2 : nxS s = ⟨#[]⟩ := by unfold nxS; rw [e1, if_neg h0]
    rw [e1, e2]
    rw [if_neg h0, if_neg h0] at H1
    generalize validE s = E at *
    have hE' : (E != 0) = true := by simpa using h0
    clear h0 e1 e2 HT HI
    go_enter Tryd.func16, Tryd.ntmps16
    go_wp2_with fail
    refine H1.out.mono ?_
    rintro e w1 ⟨rfl, hb⟩
    go_wp2_with fail
    go_ret2
    exact ⟨rfl, hb⟩
  rw [if_pos h0, if_pos h0, h0] at H1
  by_cases h9 : numB s = 99999
  · have e1 : nxE s = 3 := by unfold nxE; rw [if_pos h0, if_pos h9]
    have e2 : nxS s = ⟨#[]⟩ := by unfold nxS; rw [e1]; rfl
    rw [e1, e2]
    rw [h9] at H1
    clear h0 e1 e2 h9 HT HI
    go_enter Tryd.func16, Tryd.ntmps16
    go_wp2_with fail
    refine H1.out.mono ?_
    rintro e w1 ⟨rfl, hb⟩
    go_wp2_with fail
    go_ret2
    exact ⟨rfl, hb⟩
  obtain ⟨e1, e2, e3⟩ := nx_make h0 h9
  have hn := numB_le (valid_form h0)
  have hsz2 : (headB s).size ≤ 1000 := by have : (headB s).size = s.size - 6 := by simp [headB]
                                          omega
  have H2 := Lib.hid (fun w hT hI => Make_any (headB s) (numB s + 1) w hsz2 hT hI)
  rw [e2, e3] at H2
  rw [e1]
  have q9 : (numB s == 99999) = false := by simpa using h9
  have n0 := hn.1
  have n9 := hn.2
  clear h0 h9 e1 e2 e3 hn hsz2
  generalize nxS s = R at *
  generalize headB s = H at *
  generalize numB s = N at *
  go_enter Tryd.func16, Tryd.ntmps16
  go_wp2_with fail
  refine H1.out.mono ?_
  rintro e w1 ⟨rfl, hb⟩
  have B1 := Lib.hid hb
  clear hb
  go_wp2_with fail
  refine (H2.out w1 (HT.out.below' B1.out) (HI.out.up B1.out)).mono ?_
  rintro e w2 ⟨rfl, hb⟩
  go_wp2_with fail
  go_ret2
  exact ⟨rfl, B1.out.trans (hb.mono B1.out.size)⟩
set_option maxRecDepth 8000 in
set_option maxHeartbeats 2000000 in
theorem rNext_any (s : ByteArray) (w : World) (hsz : s.size ≤ 900) :
    Calls Tryd.prog 17 #[.string s] w fun e w' => e = .returned (.tuple #[.string (nxS s), .int .i64 (nxE s)]) ∧ Below w.heap.size w w' := by
  have H1 := Lib.hid (rValid_any s w (by omega))
  by_cases h0 : validE s = 0
  case neg =>
    have e1 : nxE s = validE s := if_neg h0
    have e2 : nxS s = ⟨#[]⟩ := by unfold nxS; rw [e1, if_neg h0]
    rw [e1, e2]
    generalize validE s = E at *
    have hE' : (E != 0) = true := by simpa using h0
    clear h0 e1 e2
    go_enter Tryd.func17, Tryd.ntmps17
    go_wp2_with fail
    refine H1.out.mono ?_
    rintro e w1 ⟨rfl, hb⟩
    go_wp2_with fail
    go_ret2
    exact ⟨rfl, hb⟩
  have hf := valid_form h0
  have H2 := Lib.hid (fun w => number_ok s w hf)
  rw [h0] at H1
  by_cases h9 : numB s = 99999
  · have e1 : nxE s = 3 := by unfold nxE; rw [if_pos h0, if_pos h9]
    have e2 : nxS s = ⟨#[]⟩ := by unfold nxS; rw [e1]; rfl
    rw [e1, e2]
    rw [h9] at H2
    clear h0 e1 e2 h9 hf
    go_enter Tryd.func17, Tryd.ntmps17
    go_wp2_with fail
    refine H1.out.mono ?_
    rintro e w1 ⟨rfl, hb⟩
    have B1 := Lib.hid hb
    clear hb
    go_wp2_with fail
    refine (H2.out w1).mono ?_
    rintro e w2 ⟨rfl, hb⟩
    go_wp2_with fail
    go_ret2
    exact ⟨rfl, B1.out.trans (hb.mono B1.out.size)⟩
  obtain ⟨e1, e2, e3⟩ := nx_make h0 h9
  have hn := numB_le hf
  obtain ⟨m, hm⟩ : ∃ m : Nat, numB s = (m : Int) := ⟨(numB s).toNat, by omega⟩
  have hs := form_size hf
  obtain ⟨k, hk⟩ : ∃ k, s.size = k + 6 := ⟨s.size - 6, by omega⟩
  have eq2 : s.size - 6 = k := by omega
  have q1 : ((s.size : Int) - 6) = (k : Int) := by omega
  have hks : k ≤ s.size := by omega
  have ew : IntKind.i64.wrap (k : Int) = (k : Int) := IntWalk.i64_in _ (by omega)
  have hsz2 : (headB s).size ≤ 1000 := by have : (headB s).size = s.size - 6 := by simp [headB]
                                          omega
  have H3 := Lib.hid (fun w => build_ok (headB s) (m + 1) w (by omega) hsz2)
  have e4 : mkR (headB s) (m + 1) = nxS s := by
    unfold nxS
    rw [if_pos e1, hm]
    congr 1
  rw [e4] at H3
  unfold headB at H3
  rw [eq2] at H3
  have q9 : (numB s == 99999) = false := by simpa using h9
  rw [hm] at q9 H2
  rw [e1]
  have m9 : m ≤ 99998 := by omega
  have q5 : ((m + 1 : Nat) : Int) = (m : Int) + 1 := by omega
  rw [q5] at H3
  have ew2 : IntKind.i64.wrap ((m : Int) + 1) = (m : Int) + 1 := IntWalk.i64_in _ (by omega)
  clear h0 h9 e1 e2 e3 e4 hn hsz2 hf hs hk eq2 q5 hm
  generalize nxS s = R at *
  go_enter Tryd.func17, Tryd.ntmps17
  go_wp2_with fail
  refine H1.out.mono ?_
  rintro e w1 ⟨rfl, hb⟩
  have B1 := Lib.hid hb
  clear hb
  go_wp2_with fail
  refine (H2.out w1).mono ?_
  rintro e w2 ⟨rfl, hb⟩
  have B2 := Lib.hid (B1.out.trans (hb.mono B1.out.size))
  clear hb
  go_wp2_with fail
  go_region_with (first
    | (go_at_call 52; refine (H2.out _).mono ?_; rintro e w3 ⟨rfl, hb3⟩)
    | (go_at_call 53; refine (H3.out _).mono ?_; rintro e w4 ⟨rfl, hb4⟩))
  all_goals (
    go_wp2_with fail
    go_ret2
    exact ⟨rfl, B2.out.trans (((Below.refl w2.heap.size w2).drew.trans ((hb3.trans (hb4.mono hb3.size)).mono (by simp))).mono B2.out.size)⟩)
end Go.Proofs.YtoenecgjiejljaaDoor

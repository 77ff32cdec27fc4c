/-
  Orders of players in the reference: the walks of Players, ordered, marginal, Marginal. Conditions: the lists can be read.
-/
import Derived.Test.YtfmhanpibgmgfaaPr2
import Derived.Test.YtfmhanpibgmgfaaPum
namespace Go.Proofs.Ytfmhanpibgmgfaa
open Go.RowKit
set_option linter.unusedVariables false

theorem rPlayers_any (Av : Option Addr) (v : List Int) (cv : Nat) (hl : v.length ≤ 9223372036854775807) (w : World) (hrv : Rd w w.heap.size Av (ints v)) :
    Calls Try.prog 18 #[.slice Av v.length cv] w fun e w' => e = .returned (.tuple #[.int .i64 (plsV v), .int .i64 (vdE v)]) ∧ w = w' := by
  have HV := Lib.hid (rValidate_any Av v cv hl w hrv)
  by_cases hv : vdE v = 0
  case neg =>
    have HX := Lib.hid (show plsV v = 0 from if_neg hv)
    rw [HX.out]
    rw [vd_bad v hv] at HV ⊢
    generalize v.length = L at *
    clear hv hrv
    go_enter Try.func18, Try.ntmps18
    go_wp2_with fail
    refine HV.out.mono ?_
    rintro e w1 ⟨rfl, rfl⟩
    go_wp2_with fail
    go_ret2
    exact ⟨rfl, rfl⟩
  case pos =>
    obtain ⟨n, pv, hup⟩ := vdE_pv hv
    have HX := Lib.hid (show plsV v = (n : Int) by unfold plsV; rw [if_pos hv, pv.pl])
    have HPl := Lib.hid (fun w => rplayers_any v.length w)
    rw [pv.rpl] at HPl
    rw [HX.out]
    rw [hv] at HV ⊢
    generalize v.length = L at *
    clear hv hrv pv hup
    go_enter Try.func18, Try.ntmps18
    go_wp2_with fail
    refine HV.out.mono ?_
    rintro e w1 ⟨rfl, rfl⟩
    go_wp2_with fail
    refine (HPl.out w).mono ?_
    rintro e w2 ⟨rfl, rfl⟩
    go_wp2_with fail
    go_ret2
    exact ⟨rfl, rfl⟩
theorem wrap_nat {m : Nat} (h : m < 4294967296) : wrap64 (m : Int) = (m : Int) := wrap_mid (by unfold Mid; omega)
theorem wrap_sum {a b m : Nat} (e : m = a + b) (h : m < 4294967296) : wrap64 ((a : Int) + (b : Int)) = (m : Int) := by
  rw [← Int.natCast_add, ← e, wrap_nat h]
theorem lt_32 {m n : Nat} (hn : n ≤ 5) (h : m < 2 ^ n) : m < 4294967296 :=
  Nat.lt_of_lt_of_le h (Nat.le_trans (Nat.pow_le_pow_right (n := 2) (by decide) hn) (by decide))
/-- So far each player is named once at most. -/
structure Pre (o : List Int) (n k : Nat) : Prop where
  rg : ∀ j, j < k → 0 ≤ nth o j ∧ nth o j < (n : Int)
  ne : ∀ i j, i < j → j < k → plA o i ≠ plA o j
theorem Pre.lt {o : List Int} {n k : Nat} (h : Pre o n k) : ∀ j, j ≤ k → msk o j < 2 ^ n
  | 0, _ => Nat.two_pow_pos n
  | j + 1, hj => by
    have h1 := h.rg j (by omega)
    have : plA o j < n := by unfold plA; omega
    exact Nat.or_lt_two_pow (h.lt j (by omega)) (Nat.pow_lt_pow_right (by omega) this)
theorem Pre.all {o : List Int} {n : Nat} (h : Pre o n n) (hl : o.length = n) : ordB o n = true := by
  refine ord_of ?_ (fun x hx => ?_) hl
  · rw [List.nodup_iff_pairwise_ne, List.pairwise_iff_getElem]
    intro i j hi hj hij e
    have g1 := nth_get (List.getElem?_eq_getElem hi)
    have g2 := nth_get (List.getElem?_eq_getElem hj)
    refine h.ne i j hij (by omega) ?_
    unfold plA
    rw [g1, g2, e]
  · obtain ⟨i, hi, he⟩ := List.getElem_of_mem hx
    have := h.rg i (by omega)
    rw [nth_get (List.getElem?_eq_getElem hi), he] at this
    exact this
theorem Pre.bad {o : List Int} {n k : Nat} (hk : k < n) (h : ¬ (0 ≤ nth o k ∧ nth o k < (n : Int)) ∨ (msk o k).testBit (plA o k) = true) : ordB o n = false := by
  cases hb : ordB o n
  · rfl
  · have od := ordB_ok hb
    rcases h with h | h
    · exact absurd (od.rg _ (List.mem_of_getElem? (get_nth (by rw [od.len]; exact hk)))) h
    · rw [msk_new od hk] at h
      cases h
theorem Pre.next {o : List Int} {n k : Nat} (h : Pre o n k) (hr : 0 ≤ nth o k ∧ nth o k < (n : Int)) (hb : (msk o k).testBit (plA o k) = false) : Pre o n (k + 1) := by
  refine ⟨fun j hj => ?_, fun i j hij hj => ?_⟩
  · by_cases e : j = k
    · rw [e]; exact hr
    · exact h.rg j (by omega)
  · by_cases e : j = k
    · rw [e]
      intro e2
      rw [msk_test, List.any_eq_false] at hb
      have := hb i (List.mem_range.2 (by omega))
      simp [e2] at this
    · exact h.ne i j hij (by omega)
set_option maxRecDepth 8000 in
set_option maxHeartbeats 4000000 in
theorem ordered_any (Av : Option Addr) (v : List Int) (cv : Nat) (A : Option Addr) (o : List Int) (c : Nat) (hl : v.length ≤ 9223372036854775807) (hol : o.length ≤ 9223372036854775807) (w : World) (hrv : Rd w w.heap.size Av (ints v)) (hr : Rd w w.heap.size A (ints o)) :
    Calls Try.prog 55 #[.slice Av v.length cv, .slice A o.length c] w fun e w' => e = .returned (.int .i64 (orE v o)) ∧ w = w' := by
  have HV := Lib.hid (rValidate_any Av v cv hl w hrv)
  have HR := Lib.hid hr
  by_cases hv : vdE v = 0
  case neg =>
    have HX := Lib.hid (show orE v o = 1 by unfold orE; rw [if_neg hv, vd_bad v hv])
    rw [vd_bad v hv] at HV
    generalize v.length = L at *
    generalize o.length = np at *
    clear hv hrv hr
    go_enter Try.func55, Try.ntmps55
    go_wp2_with fail
    refine HV.out.mono ?_
    rintro e w1 ⟨rfl, rfl⟩
    go_wp2_with fail
    go_ret
    exact ⟨by rw [HX.out] <;> rfl, rfl⟩
  case pos =>
    obtain ⟨n, pv, hup⟩ := vdE_pv hv
    have HX := Lib.hid (show orE v o = if ordB o n = true then 0 else 1 by unfold orE; rw [if_pos hv, pv.pl])
    have HPl := Lib.hid (fun w => rplayers_any v.length w)
    rw [pv.rpl] at HPl
    rw [hv] at HV
    have hn5 := pv.five
    have hn1 := pv.one
    generalize v.length = L at *
    by_cases hlen : o.length = n
    case neg =>
      have e1 : ((o.length : Int) != (n : Int)) = true := by rw [bne_iff_ne]; omega
      have e1' : (o.length != n) = true := by rw [bne_iff_ne]; exact hlen
      have HZ := Lib.hid (show orE v o = 1 by rw [HX.out]; unfold ordB; rw [decide_eq_false hlen]; rfl)
      generalize o.length = np at *
      clear hv pv hup hrv hr hlen
      go_enter Try.func55, Try.ntmps55
      go_wp2_with fail
      refine HV.out.mono ?_
      rintro e w1 ⟨rfl, rfl⟩
      go_wp2_with fail
      refine (HPl.out w).mono ?_
      rintro e w2 ⟨rfl, rfl⟩
      go_wp2_with fail
      go_ret
      exact ⟨by rw [HZ.out] <;> rfl, rfl⟩
    case pos =>
      have HLen := Lib.hid hlen
      have e1 : ((n : Int) != (n : Int)) = false := by simp
      have h25 : 2 ^ n ≤ 2 ^ 5 := Nat.pow_le_pow_right (by omega) hn5
      rw [hlen]
      clear hv pv hup hrv hr hlen hol
      go_enter Try.func55, Try.ntmps55
      go_wp2_with fail
      refine HV.out.mono ?_
      rintro e w1 ⟨rfl, rfl⟩
      go_wp2_with fail
      refine (HPl.out w).mono ?_
      rintro e w2 ⟨rfl, rfl⟩
      go_wp2_with fail
      go_loop [6, 7] (fun u z => ∃ k : Nat, k ≤ n ∧ u = .int .i64 ((msk o k : Nat) : Int) ∧ z = .int .i64 (k : Int) ∧ Pre o n k) (fun _ z => n - (intOf z).toNat)
      case atStart => exact ⟨0, by omega, rfl, rfl, ⟨fun j hj => by omega, fun i j _ hj => by omega⟩⟩
      case round =>
        obtain ⟨k, hk, rfl, rfl, hpre⟩ := hrel
        have HPre := Lib.hid hpre
        by_cases hlt : k < n
        · obtain ⟨b, oo, d, rfl, hd, hc⟩ := HR.out.int k (by rw [HLen.out]; exact hlt)
          have HD := Lib.hid (nth_get hd.out)
          have b0 : (0 : Int) ≤ (k : Int) := by omega
          have b1 : (k : Int) < (n : Int) := by omega
          have hm := hpre.lt k (Nat.le_refl _)
          have HWi := Lib.hid (within_any d 0 ((n : Int) - 1) w)
          have q0 : wrap64 ((n : Int) - 1) = (n : Int) - 1 := wrap_mid (by unfold Mid; omega)
          by_cases hin : 0 ≤ d ∧ d < (n : Int)
          · have hw : (decide (0 ≤ d) && decide (d ≤ (n : Int) - 1)) = true := by rw [decide_eq_true hin.1, decide_eq_true (show d ≤ (n : Int) - 1 by omega)]; rfl
            rw [hw] at HWi
            obtain ⟨q, hq⟩ : ∃ q : Nat, d = (q : Int) := ⟨d.toNat, by omega⟩
            subst hq
            have hpl : plA o k = q := by unfold plA; rw [HD.out]; rfl
            have HPL := Lib.hid hpl
            have hq5 : q < n := by omega
            have HH := Lib.hid (has_any (msk o k) q (by omega) (by omega) w)
            cases ht : (msk o k).testBit q
            · have HPn := Lib.hid (hpre.next (by rw [HD.out]; exact hin) (by rw [hpl]; exact ht))
              have HMs := Lib.hid (show msk o (k + 1) = msk o k + 2 ^ q by rw [show msk o (k + 1) = msk o k ||| 2 ^ plA o k from rfl, hpl]; exact or_add (by omega) (by omega) ht)
              rw [ht] at HH
              have h6 := pow5 (p := q) (by omega)
              have hcast : ((2 ^ q : Nat) : Int) = (2 : Int) ^ q := by simp
              have hwr : wrap64 ((2 : Int) ^ q) = ((2 ^ q : Nat) : Int) := by rw [← hcast]; unfold wrap64; omega
              have hcv : IntKind.u64.wrap (q : Int) = (q : Int) := by rw [IntKind.wrap_u64]; omega
              have hm1 := HPn.out.lt (k + 1) (Nat.le_refl _)
              generalize (2 ^ q : Nat) = y at *
              have hms := HMs.out
              obtain ⟨mk1, hmk1⟩ : ∃ m, msk o (k + 1) = m := ⟨_, rfl⟩
              obtain ⟨mk0, hmk0⟩ : ∃ m, msk o k = m := ⟨_, rfl⟩
              rw [hmk1] at hm1 hms
              rw [hmk0] at hms hm HH ⊢
              have HQ := Lib.hid (wrap_sum hms (lt_32 hn5 hm1))
              have HK1 := Lib.hid hmk1
              clear hmk1 hmk0 hms
              have e7 : decide ((q : Int) < 0) = false := decide_eq_false (by omega)
              clear hd ht hin hw hpre hcast h6 hm1
              go_wp2_with fail
              refine HWi.out.mono ?_
              rintro e w3 ⟨rfl, rfl⟩
              go_wp2_with fail
              refine HH.out.mono ?_
              rintro e w3 ⟨rfl, rfl⟩
              go_wp2_with fail
              go_round
              case rel => exact ⟨k + 1, by omega, by rw [HK1.out, ← HQ.out] <;> first | rfl | simp, by go_num, HPn.out⟩
              case measure => simp [intOf]; omega
            · have HZ := Lib.hid (show orE v o = 1 by rw [HX.out, Pre.bad hlt (.inr (by rw [hpl]; exact ht))]; rfl)
              rw [ht] at HH
              clear hd ht hin hw hpre
              go_wp2_with fail
              refine HWi.out.mono ?_
              rintro e w3 ⟨rfl, rfl⟩
              go_wp2_with fail
              refine HH.out.mono ?_
              rintro e w3 ⟨rfl, rfl⟩
              go_wp2_with fail
              go_ret
              exact ⟨by rw [HZ.out] <;> rfl, rfl⟩
          · have hw : (decide (0 ≤ d) && decide (d ≤ (n : Int) - 1)) = false := by
              cases hx : (decide (0 ≤ d) && decide (d ≤ (n : Int) - 1))
              · rfl
              · rw [Bool.and_eq_true, decide_eq_true_iff, decide_eq_true_iff] at hx
                exact absurd ⟨hx.1, by omega⟩ hin
            rw [hw] at HWi
            have HZ := Lib.hid (show orE v o = 1 by rw [HX.out, Pre.bad hlt (.inl (by rw [HD.out]; exact hin))]; rfl)
            clear hd hin hw hpre
            go_wp2_with fail
            refine HWi.out.mono ?_
            rintro e w3 ⟨rfl, rfl⟩
            go_wp2_with fail
            go_ret
            exact ⟨by rw [HZ.out] <;> rfl, rfl⟩
        · have hkn : k = n := by omega
          have HZ := Lib.hid (show orE v o = 0 by rw [HX.out, if_pos (Pre.all (by rw [hkn] at hpre; exact hpre) HLen.out)])
          subst hkn
          clear hlt hpre
          go_wp2_with fail
          go_ret
          exact ⟨by rw [HZ.out] <;> rfl, rfl⟩
set_option maxRecDepth 8000 in
set_option maxHeartbeats 4000000 in
theorem marginal_any (Av : Option Addr) (v : List Int) (cv n : Nat) (A : Option Addr) (o : List Int) (c : Nat) (pv : Pv v n) (hup : upB 1000 v = true) (od : Ord o n) (w : World) (hrv : Rd w w.heap.size Av (ints v)) (hr : Rd w w.heap.size A (ints o)) :
    Calls Try.prog 56 #[.slice Av v.length cv, .slice A o.length c] w fun e w' => ∃ g, e = .returned (.slice (some ⟨g, 0, none⟩) n n) ∧ Rd w' w'.heap.size (some ⟨g, 0, none⟩) (ints (rowF (stF v o n) n)) ∧ Below w.heap.size w w' := by
  have HOd := Lib.hid od
  have HUp := Lib.hid hup
  have HL := Lib.hid pv.len
  have HLn := Lib.hid od.len
  have hn5 := pv.five
  have hn1 := pv.one
  have h32 := pv.le
  obtain ⟨L, hL⟩ : ∃ L, v.length = L := ⟨_, rfl⟩
  have HLL := Lib.hid hL
  rw [hL] at h32 ⊢
  rw [od.len]
  have HRv := Lib.hid hrv
  have HR := Lib.hid hr
  have HMk := Lib.hid (fun k (hk : k < n) => msk_add od hn5 hk)
  obtain ⟨s, hs⟩ : ∃ s, w.heap.size = s := ⟨_, rfl⟩
  have HS := Lib.hid hs
  obtain ⟨i0, hi0, hz0, hz1, hz2⟩ := info_parts eInt0.hi
  clear pv hup od hL hrv hr hs
  go_enter Try.func56, Try.ntmps56
  go_wp2_with ((at_make; refine wpList_make_full _ rfl (.tmp 10) (.tmp 10) 22 rfl w.heap.size 3 i0 (.int .i64 0) 1 Try.underlying22 hi0 hz0 hz1 .i64 .i64 _ _ n rfl rfl rfl rfl (by rw [hz2]; omega) (by simp only [maxLen]; omega) (Nat.le_refl _) ?_; intro w3 hown hgr; have MD := Lib.hid (made_rowF hown hgr); clear hown hgr))
  rw [HS.out] at MD ⊢
  go_loopw [6, 7] (fun u z wr => ∃ k : Nat, k ≤ n ∧ u = .int .i64 ((msk o k : Nat) : Int) ∧ z = .int .i64 (k : Int) ∧ wr.heap[s]? = some (.cells (ints (rowF (stF v o k) n)).toArray 3 (0, 0)) ∧ Below s w wr) (fun _ z _ => n - (intOf z).toNat)
  case atStart => exact ⟨0, by omega, rfl, rfl, by rw [MD.out.2]; rfl, MD.out.1⟩
  case round =>
    obtain ⟨k, hk, rfl, rfl, hg, hbl⟩ := hrel
    by_cases hlt : k < n
    · have b0 : (0 : Int) ≤ (k : Int) := by omega
      have b1 : (k : Int) < (n : Int) := by omega
      obtain ⟨bo, oo, d, hAo, hd, hc⟩ := (HR.out.below hbl (by rw [HS.out]; exact Nat.le_refl _)).int k (by rw [HLn.out]; exact hlt)
      subst hAo
      obtain ⟨hpl, hpd⟩ := plA_lt HOd.out hlt
      rw [nth_get hd.out] at hpd
      subst hpd
      have hm := msk_lt HOd.out k (by omega)
      have hm1 := msk_lt HOd.out (k + 1) (by omega)
      rw [← HL.out, HLL.out] at hm hm1
      have HM1 := Lib.hid (HMk.out k hlt)
      have HSt := Lib.hid (fun i => show stF v o (k + 1) i = if i = plA o k then nth v (msk o (k + 1)) - nth v (msk o k) else stF v o k i from rfl)
      obtain ⟨b1', o1, x, hA1, hx, hc1⟩ := (HRv.out.below hbl (by rw [HS.out]; exact Nat.le_refl _)).int (msk o k) (by rw [HLL.out]; exact hm)
      subst hA1
      obtain ⟨b2', o2, y, hA2, hy, hc2⟩ := (HRv.out.below hbl (by rw [HS.out]; exact Nat.le_refl _)).int (msk o (k + 1)) (by rw [HLL.out]; exact hm1)
      cases hA2
      have hvx := upB_nth HUp.out (by omega) (msk o k)
      have hvy := upB_nth HUp.out (by omega) (msk o (k + 1))
      rw [nth_get hx.out] at hvx HSt
      rw [nth_get hy.out] at hvy HSt
      generalize plA o k = q at *
      have h6 := pow5 (p := q) (by omega)
      have hcast : ((2 ^ q : Nat) : Int) = (2 : Int) ^ q := by simp
      have hwr : wrap64 ((2 : Int) ^ q) = ((2 ^ q : Nat) : Int) := by rw [← hcast]; unfold wrap64; omega
      have hcv : IntKind.u64.wrap (q : Int) = (q : Int) := by rw [IntKind.wrap_u64]; omega
      have e7 : decide ((q : Int) < 0) = false := decide_eq_false (by omega)
      have c0 : wr.cell? ⟨s, q, none⟩ = some (.int .i64 (stF v o k q)) := (blk_cell hg).trans (rowF_at hpl)
      have f0 := blk_free hg q
      have q1 : IntKind.i64.wrap (y - x) = y - x := wrapI_mid (by unfold Mid; omega)
      have H1 := Lib.hid (show (wr.setCell ⟨s, q, none⟩ (.int .i64 (y - x))).drew.heap[s]? = some (.cells (ints (rowF (stF v o (k + 1)) n)).toArray 3 (0, 0)) by
        show (wr.setCell ⟨s, q, none⟩ (.int .i64 (y - x))).heap[s]? = _
        rw [blk_set hg q _, rowF_set (G := stF v o (k + 1)) (by rw [HSt.out, if_pos rfl]) (fun j hj => by rw [HSt.out, if_neg hj])])
      have HBZ := Lib.hid ((hbl.setCell (p := ⟨s, q, none⟩) (Nat.le_refl _) (.int .i64 (y - x))).drew)
      have a0 : (0 : Int) ≤ ((msk o k : Nat) : Int) := by omega
      have a1 : ((msk o k : Nat) : Int) < (L : Int) := by omega
      have a2 : (0 : Int) ≤ ((msk o (k + 1) : Nat) : Int) := by omega
      have a3 : ((msk o (k + 1) : Nat) : Int) < (L : Int) := by omega
      have a4 : (0 : Int) ≤ (q : Int) := by omega
      have a5 : (q : Int) < (n : Int) := by omega
      generalize (2 ^ q : Nat) = yy at *
      obtain ⟨m2, hm2⟩ : ∃ m, msk o (k + 1) = m := ⟨_, rfl⟩
      obtain ⟨m1, hm0⟩ : ∃ m, msk o k = m := ⟨_, rfl⟩
      have hms := HM1.out
      rw [hm2] at hms hm1 a2 a3 hc2
      rw [hm0] at hms hm a0 a1 hc1 ⊢
      have hsum : wrap64 ((m1 : Int) + (yy : Int)) = (m2 : Int) := wrap_sum hms (Nat.lt_of_lt_of_le hm1 (Nat.le_trans h32 (by decide)))
      have HK2 := Lib.hid hm2
      have HQ := Lib.hid hsum
      clear hg hbl hd hx hy hm hm1 hvx hvy h6 hcast hms hm2 hm0
      go_wp2_with fail
      go_region
      go_wp2_with fail
      go_roundw
      case rel => exact ⟨k + 1, by omega, by rw [HK2.out] <;> first | rfl | (rw [HQ.out] <;> rfl), by go_num, H1.out, HBZ.out⟩
      case measure => simp [intOf]; omega
    · have hkn : k = n := by omega
      subst hkn
      have HG := Lib.hid hg
      have HBL := Lib.hid hbl
      clear hlt hg hbl
      go_wp2_with fail
      go_ret
      exact ⟨s, rfl, Rd.of_block HG.out, by rw [HS.out]; exact HBL.out⟩
theorem rMarginal_any (Av : Option Addr) (v : List Int) (cv : Nat) (A : Option Addr) (o : List Int) (c : Nat) (hl : v.length ≤ 9223372036854775807) (hol : o.length ≤ 9223372036854775807) (w : World) (hrv : Rd w w.heap.size Av (ints v)) (hr : Rd w w.heap.size A (ints o)) :
    Calls Try.prog 20 #[.slice Av v.length cv, .slice A o.length c] w fun e w' => ∃ A' c', e = .returned (.tuple #[.slice A' (mgLen v o) c', .int .i64 (orE v o)]) ∧ Rd w' w'.heap.size A' (ints (mgL v o)) ∧ Below w.heap.size w w' := by
  have HC := Lib.hid (ordered_any Av v cv A o c hl hol w hrv hr)
  by_cases ho : orE v o = 0
  case neg =>
    have h1 := (orE_01 v o).resolve_left ho
    have HX := Lib.hid (show mgLen v o = 0 ∧ mgL v o = [] from ⟨if_neg ho, if_neg ho⟩)
    rw [HX.out.1, HX.out.2]
    rw [h1] at HC ⊢
    generalize v.length = L at *
    generalize o.length = np at *
    clear ho h1 hrv hr
    go_enter Try.func20, Try.ntmps20
    go_wp2_with fail
    refine HC.out.mono ?_
    rintro e w1 ⟨rfl, rfl⟩
    go_wp2_with fail
    go_ret2
    exact ⟨none, 0, rfl, Rd.nil_, Below.refl _ _⟩
  case pos =>
    obtain ⟨n, pv, hup, od, hv⟩ := orE_ok ho
    have HX := Lib.hid (show mgLen v o = n ∧ mgL v o = rowF (stF v o n) n from ⟨by unfold mgLen; rw [if_pos ho, od.len], by unfold mgL; rw [if_pos ho, od.len]⟩)
    rw [HX.out.1, HX.out.2]
    rw [ho] at HC ⊢
    have HM := Lib.hid (marginal_any Av v cv n A o c pv hup od w hrv hr)
    generalize v.length = L at *
    generalize o.length = np at *
    clear ho pv hup od hv hrv hr
    go_enter Try.func20, Try.ntmps20
    go_wp2_with fail
    refine HC.out.mono ?_
    rintro e w1 ⟨rfl, rfl⟩
    go_wp2_with fail
    refine HM.out.mono ?_
    rintro e w1 ⟨g, rfl, hrd, hb⟩
    have HR1 := Lib.hid hrd
    have HB1 := Lib.hid hb
    clear hrd hb
    go_wp2_with fail
    go_ret2
    exact ⟨some ⟨g, 0, none⟩, n, rfl, HR1.out, HB1.out⟩
end Go.Proofs.Ytfmhanpibgmgfaa

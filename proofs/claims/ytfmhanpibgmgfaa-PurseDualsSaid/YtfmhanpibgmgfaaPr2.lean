/-
  Orders of players in the program: the walks of slices.Contains (by its contract), checkOrder, Marginal, Players. Conditions: the lists can be read.
-/
import Derived.Test.YtfmhanpibgmgfaaPr1
import Derived.Test.YtfmhanpibgmgfaaPu9
namespace Go.Proofs.Ytfmhanpibgmgfaa
open Go.RowKit
set_option linter.unusedVariables false

theorem Contains_any (A : Option Addr) (l : List Int) (c : Nat) (x : Int) (h0 : 0 < l.length) (hl : l.length ≤ 9223372036854775807) (w : World) (hr : Rd w w.heap.size A (ints l)) :
    Calls Try.prog 92 #[.slice A l.length c, .int .i64 x] w fun e w' => e = .returned (.bool (l.contains x)) ∧ w = w' := by
  rcases hr with h | ⟨b, o, rfl, _, hc⟩
  · have := congrArg List.length h
    rw [ints_length] at this
    simp at this
    rw [this] at h0
    simp at h0
  · have H := Go.Proofs.Any.slices_Contains_int Try.lays107 b o l.length c l x w (Nat.le_refl _) hl fun j hj => by
      refine hc j _ (ints_at ?_)
      rw [List.getD_eq_getElem?_getD, List.getElem?_eq_getElem hj]
      rfl
    rw [List.take_length] at H
    exact H.mono fun e w' h => ⟨h.1, h.2.symm⟩
set_option maxRecDepth 8000 in
set_option maxHeartbeats 2000000 in
theorem checkOrder_any (Av : Option Addr) (v : List Int) (cv : Nat) (A : Option Addr) (o : List Int) (c : Nat) (hl : v.length ≤ 9223372036854775807) (hol : o.length ≤ 9223372036854775807) (w : World) (hrv : Rd w w.heap.size Av (ints v)) (hr : Rd w w.heap.size A (ints o)) :
    Calls Try.prog 53 #[.slice Av v.length cv, .slice A o.length c] w fun e w' => e = .returned (.int .i64 (orE v o)) ∧ Below w.heap.size w w' := by
  have HV := Lib.hid (Validate_any Av v cv hl w hrv)
  have HR := Lib.hid hr
  by_cases hv : vdE v = 0
  case neg =>
    have HX := Lib.hid (show orE v o = 1 by unfold orE; rw [if_neg hv, vd_bad v hv])
    rw [vd_bad v hv] at HV
    generalize v.length = L at *
    generalize o.length = np at *
    clear hv hrv hr
    go_enter Try.func53, Try.ntmps53
    go_wp2_with fail
    refine HV.out.mono ?_
    rintro e w1 ⟨rfl, hb⟩
    have HB1 := Lib.hid hb
    clear hb
    go_wp2_with fail
    go_ret
    exact ⟨by rw [HX.out] <;> rfl, HB1.out⟩
  case pos =>
    obtain ⟨n, pv, hup⟩ := vdE_pv hv
    have HX := Lib.hid (show orE v o = if ordB o n = true then 0 else 1 by unfold orE; rw [if_pos hv, pv.pl])
    have HPl := Lib.hid (fun w => players_any Av v.length cv hl w)
    rw [pv.plZ] at HPl
    rw [hv] at HV
    have hn5 := pv.five
    have hn1 := pv.one
    generalize v.length = L at *
    by_cases hlen : o.length = n
    case neg =>
      have e1 : ((o.length : Int) != (n : Int)) = true := by rw [bne_iff_ne]; omega
      have e1' : (o.length != n) = true := by rw [bne_iff_ne]; exact hlen
      have HZ := Lib.hid (show orE v o = 1 by rw [HX.out]; unfold ordB; rw [decide_eq_false hlen]; rfl)
      generalize o.length = np at *
      clear hv pv hup hrv hr hlen
      go_enter Try.func53, Try.ntmps53
      go_wp2_with fail
      refine HV.out.mono ?_
      rintro e w1 ⟨rfl, hb⟩
      have HB1 := Lib.hid hb
      clear hb
      go_wp2_with fail
      refine (HPl.out w1).mono ?_
      rintro e w2 ⟨rfl, rfl⟩
      go_wp2_with fail
      go_ret
      exact ⟨by rw [HZ.out] <;> rfl, HB1.out⟩
    case pos =>
      have HLen := Lib.hid hlen
      have HCo := Lib.hid (fun x w h => Contains_any A o c x (by omega) hol w h)
      have HOB := Lib.hid (show ordB o n = (List.range n).all fun k => o.contains ((k : Nat) : Int) by unfold ordB; rw [decide_eq_true hlen, Bool.true_and])
      have e1 : ((n : Int) != (n : Int)) = false := by simp
      rw [hlen] at HCo ⊢
      clear hv pv hup hrv hr hlen hol
      go_enter Try.func53, Try.ntmps53
      go_wp2_with fail
      refine HV.out.mono ?_
      rintro e w1 ⟨rfl, hb⟩
      have HB1 := Lib.hid hb
      have HR1 := Lib.hid ((HR.out.below hb (Nat.le_refl _)).more hb.size)
      clear hb
      go_wp2_with fail
      refine (HPl.out w1).mono ?_
      rintro e w2 ⟨rfl, rfl⟩
      go_wp2_with fail
      go_loop [19] (fun z => ∃ k : Nat, k ≤ n ∧ z = .int .i64 (k : Int) ∧ ∀ j, j < k → o.contains ((j : Nat) : Int) = true) (fun z => n - (intOf z).toNat)
      case atStart => exact ⟨0, by omega, rfl, fun j hj => by omega⟩
      case round =>
        obtain ⟨k, hk, rfl, hall⟩ := hrel
        have HA := Lib.hid hall
        clear hall
        by_cases hlt : k < n
        · have b0 : (k : Int) < (n : Int) := by omega
          have HC := Lib.hid (HCo.out (k : Int) w1 HR1.out)
          cases hx : o.contains ((k : Nat) : Int)
          · have HZ := Lib.hid (show orE v o = 1 by
              rw [HX.out, if_neg]
              intro h
              rw [HOB.out] at h
              have := List.all_eq_true.1 h k (List.mem_range.2 hlt)
              rw [hx] at this
              cases this)
            rw [hx] at HC
            clear hx
            go_wp2_with fail
            refine HC.out.mono ?_
            rintro e w2 ⟨rfl, rfl⟩
            go_wp2_with fail
            go_ret
            exact ⟨by rw [HZ.out] <;> rfl, HB1.out⟩
          · have HN := Lib.hid (fun j (hj : j < k + 1) => show o.contains ((j : Nat) : Int) = true by
              by_cases e : j = k
              · rw [e]; exact hx
              · exact HA.out j (by omega))
            rw [hx] at HC
            clear hx
            go_wp2_with fail
            refine HC.out.mono ?_
            rintro e w2 ⟨rfl, rfl⟩
            go_wp2_with fail
            go_round
            case rel => exact ⟨k + 1, by omega, by go_num, HN.out⟩
            case measure => simp [intOf]; omega
        · have hkn : k = n := by omega
          have HZ := Lib.hid (show orE v o = 0 by rw [HX.out, if_pos (by rw [HOB.out]; exact List.all_eq_true.2 fun j hj => HA.out j (by have := List.mem_range.1 hj; omega))])
          subst hkn
          clear hlt
          go_wp2_with fail
          go_ret
          exact ⟨by rw [HZ.out] <;> rfl, HB1.out⟩
theorem st_next (v o : List Int) (k : Nat) : stF v o (k + 1) = fun i => if i = plA o k then nth v (msk o (k + 1)) - nth v (msk o k) else stF v o k i := rfl
set_option maxRecDepth 8000 in
set_option maxHeartbeats 4000000 in
theorem Marginal_any (Av : Option Addr) (v : List Int) (cv : Nat) (A : Option Addr) (o : List Int) (c : Nat) (hl : v.length ≤ 9223372036854775807) (hol : o.length ≤ 9223372036854775807) (w : World) (hrv : Rd w w.heap.size Av (ints v)) (hr : Rd w w.heap.size A (ints o)) :
    Calls Try.prog 19 #[.slice Av v.length cv, .slice A o.length c] w fun e w' => ∃ A' c', e = .returned (.tuple #[.slice A' (mgLen v o) c', .int .i64 (orE v o)]) ∧ Rd w' w'.heap.size A' (ints (mgL v o)) ∧ Below w.heap.size w w' := by
  have HC := Lib.hid (checkOrder_any Av v cv A o c hl hol w hrv hr)
  by_cases ho : orE v o = 0
  case neg =>
    have h1 := (orE_01 v o).resolve_left ho
    have HX := Lib.hid (show mgLen v o = 0 ∧ mgL v o = [] from ⟨if_neg ho, if_neg ho⟩)
    rw [HX.out.1, HX.out.2]
    rw [h1] at HC ⊢
    generalize v.length = L at *
    generalize o.length = np at *
    clear ho h1 hrv hr
    go_enter Try.func19, Try.ntmps19
    go_wp2_with fail
    refine HC.out.mono ?_
    rintro e w1 ⟨rfl, hb⟩
    have HB1 := Lib.hid hb
    clear hb
    go_wp2_with fail
    go_ret2
    exact ⟨none, 0, rfl, Rd.nil_, HB1.out⟩
  case pos =>
    obtain ⟨n, pv, hup, od, hv⟩ := orE_ok ho
    have HOd := Lib.hid od
    have HX := Lib.hid (show mgLen v o = n ∧ mgL v o = rowF (stF v o n) n from ⟨by unfold mgLen; rw [if_pos ho, od.len], by unfold mgL; rw [if_pos ho, od.len]⟩)
    rw [HX.out.1, HX.out.2]
    rw [ho] at HC ⊢
    have HUp := Lib.hid hup
    have HL := Lib.hid pv.len
    have HLn := Lib.hid od.len
    have hn5 := pv.five
    have hn1 := pv.one
    have h32 := pv.le
    obtain ⟨L, hL⟩ : ∃ L, v.length = L := ⟨_, rfl⟩
    have HLL := Lib.hid hL
    rw [hL] at HC h32 ⊢
    rw [od.len] at HC ⊢
    have HRv := Lib.hid hrv
    have HR := Lib.hid hr
    have HMk := Lib.hid (fun k => show msk o (k + 1) = msk o k ||| 2 ^ plA o k from rfl)
    obtain ⟨i0, hi0, hz0, hz1, hz2⟩ := info_parts eInt0.hi
    clear ho pv hup od hv hL hrv hr hl hol
    go_enter Try.func19, Try.ntmps19
    go_wp2_with fail
    refine HC.out.mono ?_
    rintro e w1 ⟨rfl, hb⟩
    have HB1 := Lib.hid hb
    have HRv1 := Lib.hid (HRv.out.below hb (Nat.le_refl _))
    have HR1 := Lib.hid (HR.out.below hb (Nat.le_refl _))
    obtain ⟨s, hs⟩ : ∃ s, w1.heap.size = s := ⟨_, rfl⟩
    have HS := Lib.hid hs
    have hws : w.heap.size ≤ s := by rw [← hs]; exact hb.size
    clear hb hs
    go_wp2_with ((at_make; refine wpList_make_full _ rfl (.tmp 19) (.tmp 19) 22 rfl w1.heap.size 3 i0 (.int .i64 0) 1 Try.underlying22 hi0 hz0 hz1 .i64 .i64 _ _ n rfl rfl rfl rfl (by rw [hz2]; omega) (by simp only [maxLen]; omega) (Nat.le_refl _) ?_; intro w3 hown hgr; have MD := Lib.hid (made_rowF hown hgr); clear hown hgr))
    rw [HS.out] at MD ⊢
    go_loopw [8, 23] (fun u z wr => ∃ k : Nat, k ≤ n ∧ u = .int .i64 ((msk o k : Nat) : Int) ∧ z = .int .i64 (k : Int) ∧ wr.heap[s]? = some (.cells (ints (rowF (stF v o k) n)).toArray 3 (0, 0)) ∧ Below s w1 wr) (fun _ z _ => n - (intOf z).toNat)
    case atStart => exact ⟨0, by omega, rfl, rfl, by rw [MD.out.2]; rfl, MD.out.1⟩
    case round =>
      obtain ⟨k, hk, rfl, rfl, hg, hbl⟩ := hrel
      by_cases hlt : k < n
      · have b0 : (0 : Int) ≤ (k : Int) := by omega
        have b1 : (k : Int) < (n : Int) := by omega
        obtain ⟨bo, oo, d, hAo, hd, hc⟩ := (HR1.out.below hbl hws).int k (by rw [HLn.out]; exact hlt)
        subst hAo
        obtain ⟨hpl, hpd⟩ := plA_lt HOd.out hlt
        rw [nth_get hd.out] at hpd
        subst hpd
        have hm := msk_lt HOd.out k (by omega)
        have hm1 := msk_lt HOd.out (k + 1) (by omega)
        rw [← HL.out, HLL.out] at hm hm1
        have HM1 := Lib.hid (HMk.out k)
        have HSt := Lib.hid (fun i => show stF v o (k + 1) i = if i = plA o k then nth v (msk o (k + 1)) - nth v (msk o k) else stF v o k i from rfl)
        have hp5 : 2 ^ plA o k < 2 ^ n := Nat.pow_lt_pow_right (by omega) hpl
        rw [← HL.out, HLL.out] at hp5
        have HAl := Lib.hid (alone_any (plA o k) (by omega) wr)
        obtain ⟨b1', o1, x, hA1, hx, hc1⟩ := (HRv1.out.below hbl hws).int (msk o k) (by rw [HLL.out]; exact hm)
        subst hA1
        obtain ⟨b2', o2, y, hA2, hy, hc2⟩ := (HRv1.out.below hbl hws).int (msk o (k + 1)) (by rw [HLL.out]; exact hm1)
        cases hA2
        have hvx := upB_nth HUp.out (by omega) (msk o k)
        have hvy := upB_nth HUp.out (by omega) (msk o (k + 1))
        rw [nth_get hx.out] at hvx HSt
        rw [nth_get hy.out] at hvy HSt
        have hor : bits .or .i64 ((msk o k : Nat) : Int) ((2 ^ plA o k : Nat) : Int) = ((msk o (k + 1) : Nat) : Int) := by rw [i64_or_nat _ _ (by omega) (by omega), HM1.out]
        generalize plA o k = q at *
        have c0 : wr.cell? ⟨s, q, none⟩ = some (.int .i64 (stF v o k q)) := (blk_cell hg).trans (rowF_at hpl)
        have f0 := blk_free hg q
        have q1 : IntKind.i64.wrap (y - x) = y - x := wrapI_mid (by unfold Mid; omega)
        have H1 := Lib.hid (show (wr.setCell ⟨s, q, none⟩ (.int .i64 (y - x))).drew.heap[s]? = some (.cells (ints (rowF (stF v o (k + 1)) n)).toArray 3 (0, 0)) by
          show (wr.setCell ⟨s, q, none⟩ (.int .i64 (y - x))).heap[s]? = _
          rw [blk_set hg q _, rowF_set (G := stF v o (k + 1)) (by rw [HSt.out, if_pos rfl]) (fun j hj => by rw [HSt.out, if_neg hj])])
        have HBZ := Lib.hid ((hbl.setCell (p := ⟨s, q, none⟩) (Nat.le_refl _) (.int .i64 (y - x))).drew)
        have a0 : (0 : Int) ≤ ((msk o k : Nat) : Int) := by omega
        have a1 : ((msk o k : Nat) : Int) < (L : Int) := by omega
        have a2 : (0 : Int) ≤ ((msk o (k + 1) : Nat) : Int) := by omega
        have a3 : ((msk o (k + 1) : Nat) : Int) < (L : Int) := by omega
        have a4 : (0 : Int) ≤ (q : Int) := by omega
        have a5 : (q : Int) < (n : Int) := by omega
        generalize (2 ^ q : Nat) = yy at *
        clear hg hbl hd hx hy hm hm1 hvx hvy hp5
        go_wp2_with fail
        refine HAl.out.mono ?_
        rintro e w4 ⟨rfl, rfl⟩
        go_wp2_with fail
        go_region
        go_wp2_with fail
        go_roundw
        case rel => exact ⟨k + 1, by omega, rfl, by go_num, H1.out, HBZ.out⟩
        case measure => simp [intOf]; omega
      · have hkn : k = n := by omega
        subst hkn
        have HG := Lib.hid hg
        have HBL := Lib.hid (HB1.out.trans (hbl.mono hws))
        clear hlt hg hbl
        go_wp2_with fail
        go_ret2
        exact ⟨some ⟨s, 0, none⟩, k, rfl, Rd.of_block HG.out, HBL.out⟩
def plsV (v : List Int) : Int := if vdE v = 0 then (plN v.length : Int) else 0
theorem Players_any (Av : Option Addr) (v : List Int) (cv : Nat) (hl : v.length ≤ 9223372036854775807) (w : World) (hrv : Rd w w.heap.size Av (ints v)) :
    Calls Try.prog 17 #[.slice Av v.length cv] w fun e w' => e = .returned (.tuple #[.int .i64 (plsV v), .int .i64 (vdE v)]) ∧ Below w.heap.size w w' := by
  have HV := Lib.hid (Validate_any Av v cv hl w hrv)
  by_cases hv : vdE v = 0
  case neg =>
    have HX := Lib.hid (show plsV v = 0 from if_neg hv)
    rw [HX.out]
    rw [vd_bad v hv] at HV ⊢
    generalize v.length = L at *
    clear hv hrv
    go_enter Try.func17, Try.ntmps17
    go_wp2_with fail
    refine HV.out.mono ?_
    rintro e w1 ⟨rfl, hb⟩
    have HB1 := Lib.hid hb
    clear hb
    go_wp2_with fail
    go_ret2
    exact ⟨rfl, HB1.out⟩
  case pos =>
    obtain ⟨n, pv, hup⟩ := vdE_pv hv
    have HX := Lib.hid (show plsV v = (n : Int) by unfold plsV; rw [if_pos hv, pv.pl])
    have HPl := Lib.hid (fun w => players_any Av v.length cv hl w)
    rw [pv.plZ] at HPl
    rw [HX.out]
    rw [hv] at HV ⊢
    generalize v.length = L at *
    clear hv hrv pv hup
    go_enter Try.func17, Try.ntmps17
    go_wp2_with fail
    refine HV.out.mono ?_
    rintro e w1 ⟨rfl, hb⟩
    have HB1 := Lib.hid hb
    clear hb
    go_wp2_with fail
    refine (HPl.out w1).mono ?_
    rintro e w2 ⟨rfl, rfl⟩
    go_wp2_with fail
    go_ret2
    exact ⟨rfl, HB1.out⟩
end Go.Proofs.Ytfmhanpibgmgfaa

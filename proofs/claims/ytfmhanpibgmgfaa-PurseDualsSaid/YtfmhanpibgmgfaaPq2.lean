/-
  The purse with exchanged players in the reference: the walk of Permute. Conditions: the lists can be read.
-/
import Derived.Test.YtfmhanpibgmgfaaPq1
import Derived.Test.YtfmhanpibgmgfaaPr3
namespace Go.Proofs.Ytfmhanpibgmgfaa
open Go.RowKit
set_option linter.unusedVariables false

set_option maxRecDepth 8000 in
set_option maxHeartbeats 4000000 in
theorem rPermute_any (Av : Option Addr) (v : List Int) (cv : Nat) (A : Option Addr) (o : List Int) (c : Nat) (hl : v.length ≤ 9223372036854775807) (hol : o.length ≤ 9223372036854775807) (w : World) (hrv : Rd w w.heap.size Av (ints v)) (hr : Rd w w.heap.size A (ints o)) :
    Calls Try.prog 38 #[.slice Av v.length cv, .slice A o.length c] w fun e w' => ∃ A' c', e = .returned (.tuple #[.slice A' (pqLen v o) c', .int .i64 (orE v o)]) ∧ Rd w' w'.heap.size A' (ints (pqL v o)) ∧ Below w.heap.size w w' := by
  have HC := Lib.hid (ordered_any Av v cv A o c hl hol w hrv hr)
  by_cases ho : orE v o = 0
  case neg =>
    have h1 := (orE_01 v o).resolve_left ho
    have HX := Lib.hid (show pqLen v o = 0 ∧ pqL v o = [] from ⟨if_neg ho, if_neg ho⟩)
    rw [HX.out.1, HX.out.2]
    rw [h1] at HC ⊢
    generalize v.length = L at *
    generalize o.length = np at *
    clear ho h1 hrv hr
    go_enter Try.func38, Try.ntmps38
    go_wp2_with fail
    refine HC.out.mono ?_
    rintro e w1 ⟨rfl, rfl⟩
    go_wp2_with fail
    go_ret2
    exact ⟨none, 0, rfl, Rd.nil_, Below.refl _ _⟩
  case pos =>
    obtain ⟨n, pv, hup, od, hv⟩ := orE_ok ho
    have HOd := Lib.hid od
    have HX := Lib.hid (show pqLen v o = v.length ∧ pqL v o = rowF (pmF v o n v.length) v.length from ⟨if_pos ho, by unfold pqL; rw [if_pos ho, od.len]⟩)
    rw [HX.out.1, HX.out.2]
    rw [ho] at HC ⊢
    have HL := Lib.hid pv.len
    have HLn := Lib.hid od.len
    have hn5 := pv.five
    have hn1 := pv.one
    have h32 := pv.le
    obtain ⟨L, hL⟩ : ∃ L, v.length = L := ⟨_, rfl⟩
    have HLL := Lib.hid hL
    have hL2 : L = 2 ^ n := by rw [← hL]; exact pv.len
    have HMl := Lib.hid (fun g i (hi : i ≤ n) => show mpF o g i < L by rw [hL2]; exact mp_lt od g i hi)
    have HMs := Lib.hid (fun g i => show mpF o g (i + 1) = if g.testBit i = true then mpF o g i ||| 2 ^ plA o i else mpF o g i from rfl)
    have HMa := Lib.hid (fun g i (hi : i < n) => mp_add od hn5 hi g)
    have HM0 := Lib.hid (fun g => show mpF o g 0 = 0 from rfl)
    have HPm := Lib.hid (fun k h => show pmF v o n (k + 1) h = if h = mpF o k n then nth v k else pmF v o n k h from rfl)
    have HP0 := Lib.hid (show pmF v o n 0 = fun _ => 0 from rfl)
    have HLt := Lib.hid hL2
    rw [hL] at HC h32 ⊢
    rw [od.len] at HC ⊢
    have HRv := Lib.hid hrv
    have HR := Lib.hid hr
    generalize mpF o = mp at *
    generalize pmF v o n = pm at *
    have hL0 : 0 < L := by rw [hL2]; exact Nat.two_pow_pos n
    obtain ⟨i0, hi0, hz0, hz1, hz2⟩ := info_parts eInt0.hi
    clear ho pv hup od hv hL hrv hr hl hol hL2
    go_enter Try.func38, Try.ntmps38
    go_wp2_with fail
    refine HC.out.mono ?_
    rintro e w1 ⟨rfl, rfl⟩
    have hb := Below.refl w.heap.size w
    have HB1 := Lib.hid hb
    have HRv1 := Lib.hid (HRv.out.below hb (Nat.le_refl _))
    have HR1 := Lib.hid (HR.out.below hb (Nat.le_refl _))
    obtain ⟨s, hs⟩ : ∃ s, w.heap.size = s := ⟨_, rfl⟩
    have HS := Lib.hid hs
    have hws : w.heap.size ≤ s := by rw [← hs]; exact hb.size
    clear hb hs
    go_wp2_with ((at_make; refine wpList_make_full _ rfl (.tmp 18) (.tmp 18) 22 rfl w.heap.size 3 i0 (.int .i64 0) 1 Try.underlying22 hi0 hz0 hz1 .i64 .i64 _ _ L rfl rfl rfl rfl (by rw [hz2]; omega) (by simp only [maxLen]; omega) (Nat.le_refl _) ?_; intro w3 hown hgr; have MD := Lib.hid (made_rowF hown hgr); clear hown hgr))
    rw [HS.out] at MD ⊢
    go_loopw [8] (fun z wr => ∃ g : Nat, g ≤ L ∧ z = .int .i64 (g : Int) ∧ wr.heap[s]? = some (.cells (ints (rowF (pm g) L)).toArray 3 (0, 0)) ∧ Below s w wr) (fun z _ => L - (intOf z).toNat)
    case atStart => exact ⟨0, by omega, rfl, by rw [MD.out.2, HP0.out], MD.out.1⟩
    case round =>
      obtain ⟨g, hg, rfl, hblk, hbl⟩ := hrel
      by_cases hlt : g < L
      · have g0 : (0 : Int) ≤ (g : Int) := by omega
        have g1 : (g : Int) < (L : Int) := by omega
        obtain ⟨bv, ov, x, hAv, hx, hcv⟩ := (HRv1.out.below hbl hws).int g (by rw [HLL.out]; exact hlt)
        have HAv := Lib.hid hAv
        subst hAv
        have HXv := Lib.hid (nth_get hx.out)
        have HK := Lib.hid hblk
        have HBL := Lib.hid hbl
        clear hblk hbl hx
        obtain ⟨wo, rfl⟩ : ∃ wo : World, wo = wr := ⟨_, rfl⟩
        go_wp2_with fail
        go_loopw [9, 10] (fun u z wx => ∃ i : Nat, i ≤ n ∧ u = .int .i64 ((mp g i : Nat) : Int) ∧ z = .int .i64 (i : Int) ∧ wx = wo) (fun _ z _ => n - (intOf z).toNat)
        case atStart => exact ⟨0, by omega, by rw [HM0.out]; rfl, rfl, rfl⟩
        case round =>
          obtain ⟨i, hi, rfl, rfl, hwx⟩ := hrel
          subst hwx
          by_cases hlt2 : i < n
          · have b0 : (0 : Int) ≤ (i : Int) := by omega
            have b1 : (i : Int) < (n : Int) := by omega
            obtain ⟨bo, oo, d, hAo, hd, hc⟩ := (HR1.out.below HBL.out hws).int i (by rw [HLn.out]; exact hlt2)
            have HAo := Lib.hid hAo
            subst hAo
            obtain ⟨hpl, hpd⟩ := plA_lt HOd.out hlt2
            rw [nth_get hd.out] at hpd
            subst hpd
            have HIs := Lib.hid (has_any g i (by omega) (by omega) wr)
            have hm := HMl.out g i hi
            have hms := HMs.out g i
            have hp5 : 2 ^ plA o i < 2 ^ n := Nat.pow_lt_pow_right (by omega) hpl
            rw [← HLt.out] at hp5
            have had := HMa.out g i hlt2
            have HMs2 := Lib.hid hms
            generalize plA o i = q at *
            have h6 := pow5 (p := q) (by omega)
            have hcast : ((2 ^ q : Nat) : Int) = (2 : Int) ^ q := by simp
            have hwr : wrap64 ((2 : Int) ^ q) = ((2 ^ q : Nat) : Int) := by rw [← hcast]; unfold wrap64; clear hms had hp5 HMs2; omega
            have hcq : IntKind.u64.wrap (q : Int) = (q : Int) := by rw [IntKind.wrap_u64]; omega
            have e7 : decide ((q : Int) < 0) = false := decide_eq_false (by omega)
            cases ht : g.testBit i
            · rw [ht] at HIs
              have HN := Lib.hid (show mp g (i + 1) = mp g i by rw [HMs2.out, if_neg (by rw [ht]; simp)])
              clear hd hms hm hp5 ht h6 hcast had hwr
              go_wp2_with fail
              refine HIs.out.mono ?_
              rintro e w4 ⟨rfl, rfl⟩
              go_wp2_with fail
              go_roundw
              case rel => exact ⟨i + 1, by omega, by rw [HN.out], by go_num, trivial⟩
              case measure => simp [intOf]; omega
            · rw [ht] at HIs
              have HN := Lib.hid (show mp g (i + 1) = mp g i + 2 ^ q by rw [HMs2.out, if_pos ht, had])
              generalize (2 ^ q : Nat) = yy at *
              have hm1 := HMl.out g (i + 1) (by omega)
              have hsum : wrap64 (((mp g i : Nat) : Int) + (yy : Int)) = ((mp g (i + 1) : Nat) : Int) := wrap_sum HN.out (Nat.lt_of_lt_of_le hm1 (Nat.le_trans h32 (by decide)))
              have HQ := Lib.hid hsum
              clear hd hms hm hp5 ht h6 hcast had hm1
              go_wp2_with fail
              refine HIs.out.mono ?_
              rintro e w4 ⟨rfl, rfl⟩
              go_wp2_with fail
              go_roundw
              case rel => exact ⟨i + 1, by omega, by first | rfl | (rw [HQ.out] <;> rfl), by go_num, trivial⟩
              case measure => simp [intOf]; omega
          · have hin : i = n := by omega
            subst hin
            have hm := HMl.out g i (Nat.le_refl _)
            have hPm := HPm.out g
            rw [HXv.out] at hPm
            have HMz := Lib.hid (show mp g i = mp g i from rfl)
            generalize mp g i = h at *
            have c0 : wr.cell? ⟨s, h, none⟩ = some (.int .i64 (pm g h)) := (blk_cell HK.out).trans (rowF_at hm)
            have f0 := blk_free HK.out h
            have a0 : (0 : Int) ≤ (h : Int) := by omega
            have a1 : (h : Int) < (L : Int) := by omega
            have H1 := Lib.hid (show (wr.setCell ⟨s, h, none⟩ (.int .i64 x)).heap[s]? = some (.cells (ints (rowF (pm (g + 1)) L)).toArray 3 (0, 0)) by
              rw [blk_set HK.out h _, rowF_set (G := pm (g + 1)) (by rw [hPm, if_pos rfl]) (fun j hj => by rw [hPm, if_neg hj])])
            have HBZ := Lib.hid (HBL.out.setCell (p := ⟨s, h, none⟩) (Nat.le_refl _) (.int .i64 x))
            clear hPm hm hlt2
            go_wp2_with fail
            go_roundw
            case rel => exact ⟨g + 1, by omega, by go_num, H1.out, HBZ.out⟩
            case measure => simp [intOf]; omega
      · have hgl : g = L := by omega
        subst hgl
        have HG := Lib.hid hblk
        have HBL := Lib.hid (HB1.out.trans (hbl.mono hws))
        clear hlt hblk hbl
        go_wp2_with fail
        go_ret2
        exact ⟨some ⟨s, 0, none⟩, _, rfl, Rd.of_block HG.out, HBL.out⟩
end Go.Proofs.Ytfmhanpibgmgfaa

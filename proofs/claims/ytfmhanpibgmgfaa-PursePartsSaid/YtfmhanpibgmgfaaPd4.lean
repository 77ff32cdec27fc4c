/-
  Dividends of the reference: the walks of part, Dividends, FromDividends. Conditions: the lists can be read.
-/
import Derived.Test.YtfmhanpibgmgfaaPd3
import Derived.Test.YtfmhanpibgmgfaaPum
namespace Go.Proofs.Ytfmhanpibgmgfaa
open Go.RowKit
set_option linter.unusedVariables false

theorem part_any (g h : Nat) (hg : g < 9223372036854775808) (hh : h < 9223372036854775808) (w : World) :
    Calls Try.prog 67 #[.int .i64 (g : Int), .int .i64 (h : Int)] w fun e w' => e = .returned (.bool (paB g h)) ∧ w = w' := by
  have hand : bits .and .i64 (g : Int) (h : Int) = ((g &&& h : Nat) : Int) := i64_and_nat g h hg hh
  have HX := Lib.hid (show paB g h = (((g &&& h : Nat) : Int) == (g : Int)) by
    unfold paB
    by_cases e : g &&& h = g
    · rw [e]; simp
    · rw [decide_eq_false e]
      symm
      rw [beq_eq_false_iff_ne]
      omega)
  rw [HX.out]
  generalize g &&& h = x at *
  go_enter Try.func67, Try.ntmps67
  go_wp2_with fail
  go_ret
  exact ⟨rfl, rfl⟩
theorem ps_le {f : Nat → Int} {M : Int} (hM : 0 ≤ M) (hf : ∀ g, -M ≤ f g ∧ f g ≤ M) (h : Nat) : ∀ k : Nat, -((k : Int) * M) ≤ psF f h k ∧ psF f h k ≤ (k : Int) * M
  | 0 => by
    show -(((0 : Nat) : Int) * M) ≤ 0 ∧ (0 : Int) ≤ ((0 : Nat) : Int) * M
    simp
  | k + 1 => by
    have ih := ps_le hM hf h k
    have h1 := hf k
    have e : (((k + 1 : Nat) : Int)) * M = (k : Int) * M + M := by rw [Int.natCast_add, Int.add_mul]; simp
    show -(((k + 1 : Nat) : Int) * M) ≤ psF f h k + (if paB k h = true then f k else 0) ∧ psF f h k + (if paB k h = true then f k else 0) ≤ ((k + 1 : Nat) : Int) * M
    rw [e]
    generalize (k : Int) * M = z at *
    split <;> omega
theorem ps_32 {f : Nat → Int} (hf : ∀ g, -32000000 ≤ f g ∧ f g ≤ 32000000) (h k : Nat) (hk : k ≤ 32) : -1024000000 ≤ psF f h k ∧ psF f h k ≤ 1024000000 := by
  have := ps_le (M := 32000000) (by omega) hf h k
  omega
theorem tf_32 {f : Nat → Int} {s : Int} {n : Nat} (hs : s = 1 ∨ s = -1) (hn : n ≤ 5) (h : ∀ g, -1000000 ≤ f g ∧ f g ≤ 1000000) : ∀ g, -32000000 ≤ tfF f s n g ∧ tfF f s n g ≤ 32000000 := fun g => by
  have h1 := tf_le (M := 1000000) hs h n g
  have h2 : (2 : Int) ^ n ≤ 32 := by
    have : (2 : Nat) ^ n ≤ 2 ^ 5 := Nat.pow_le_pow_right (by omega) hn
    have e : ((2 ^ n : Nat) : Int) = (2 : Int) ^ n := by simp
    rw [← e]
    exact Int.ofNat_le.2 this
  generalize (2 : Int) ^ n = z at *
  omega
/-- The list while the number x of h is made. -/
def inS (F : Nat → Int) (h : Nat) (x : Int) (i : Nat) : Int := if i < h then F i else if i = h then x else 0
theorem inS_0 (F : Nat → Int) (h : Nat) : inS F h 0 = sofar F h := by
  funext i
  unfold inS sofar
  by_cases h1 : i < h
  · rw [if_pos h1, if_pos h1]
  · rw [if_neg h1, if_neg h1]
    split <;> rfl
theorem inS_up {F : Nat → Int} {h : Nat} {x : Int} (e : x = F h) : inS F h x = sofar F (h + 1) := by
  funext i
  unfold inS sofar
  by_cases h1 : i < h
  · rw [if_pos h1, if_pos (by omega)]
  · rw [if_neg h1]
    by_cases h2 : i = h
    · subst h2
      rw [if_pos rfl, if_pos (by omega), e]
    · rw [if_neg h2, if_neg (by omega)]
theorem inS_at (F : Nat → Int) (h : Nat) (x : Int) : inS F h x h = x := by
  unfold inS
  rw [if_neg (Nat.lt_irrefl _), if_pos rfl]
theorem inS_lt {F : Nat → Int} {h g : Nat} {x : Int} (hg : g < h) : inS F h x g = F g := if_pos hg
theorem inS_ne {F : Nat → Int} {h i : Nat} {x y : Int} (hi : i ≠ h) : inS F h x i = inS F h y i := by
  unfold inS
  by_cases h1 : i < h <;> simp [h1, hi]
set_option maxRecDepth 8000 in
set_option maxHeartbeats 4000000 in
theorem rDividends_any (Av : Option Addr) (v : List Int) (cv : Nat) (hl : v.length ≤ 9223372036854775807) (w : World) (hr : Rd w w.heap.size Av (ints v)) :
    Calls Try.prog 30 #[.slice Av v.length cv] w fun e w' => ∃ A' c', e = .returned (.tuple #[.slice A' (dvLen v) c', .int .i64 (vdE v)]) ∧ Rd w' w'.heap.size A' (ints (dvL v)) ∧ Below w.heap.size w w' := by
  have HV := Lib.hid (rValidate_any Av v cv hl w hr)
  by_cases hv : vdE v = 0
  case neg =>
    have k1 : dvLen v = 0 := if_neg hv
    have k2 : dvL v = [] := if_neg hv
    rw [k1, k2]
    rw [vd_bad v hv] at HV ⊢
    generalize v.length = L at *
    clear hv hr k1 k2
    go_enter Try.func30, Try.ntmps30
    go_wp2_with fail
    refine HV.out.mono ?_
    rintro e w1 ⟨rfl, rfl⟩
    go_wp2_with fail
    go_ret2
    exact ⟨none, 0, rfl, Rd.nil_, Below.refl _ _⟩
  case pos =>
    obtain ⟨n, pv, hup⟩ := vdE_pv hv
    have k1 : dvLen v = v.length := if_pos hv
    have k2 : dvL v = rowF (tfF (nth v) (-1) n) v.length := by unfold dvL dvG; rw [if_pos hv, pv.pl]
    have HR := Lib.hid hr
    have h32 := pv.le
    have HUp := Lib.hid hup
    rw [k1, k2, hv]
    rw [hv] at HV
    have HD := Lib.hid (fun h (hh : h < v.length) => div_left (nth v) pv.five (by rw [← pv.len]; exact hh))
    have HM := Lib.hid (fun h k (hk : k ≤ 32) => ps_32 (f := tfF (nth v) (-1) n) (tf_32 (.inr rfl) pv.five (fun g => by have := upB_nth hup (by omega) g; omega)) h k hk)
    have HMf := Lib.hid (tf_32 (f := nth v) (s := -1) (n := n) (.inr rfl) pv.five (fun g => by have := upB_nth hup (by omega) g; omega))
    generalize tfF (nth v) (-1) n = F at *
    have HPs := Lib.hid (fun h k => show psF F h (k + 1) = psF F h k + (if paB k h = true then F k else 0) from rfl)
    have HP0 := Lib.hid (fun h => show psF F h 0 = 0 from rfl)
    generalize psF F = ps at *
    obtain ⟨L, hL⟩ : ∃ L, v.length = L := ⟨_, rfl⟩
    have HL := Lib.hid hL
    rw [hL] at HV h32 HD ⊢
    obtain ⟨i0, hi0, hz0, hz1, hz2⟩ := info_parts eInt0.hi
    obtain ⟨s, hs⟩ : ∃ s, w.heap.size = s := ⟨_, rfl⟩
    have HS := Lib.hid hs
    clear hv hr k1 k2 pv hup hl hs hL
    go_enter Try.func30, Try.ntmps30
    go_wp2_with fail
    refine HV.out.mono ?_
    rintro e w1 ⟨rfl, rfl⟩
    go_wp2_with ((at_make; refine wpList_make_full _ rfl (.tmp 14) (.tmp 14) 22 rfl w.heap.size 3 i0 (.int .i64 0) 1 Try.underlying22 hi0 hz0 hz1 .i64 .i64 _ _ L rfl rfl rfl rfl (by rw [hz2]; omega) (by simp only [maxLen]; omega) (Nat.le_refl _) ?_; intro w3 hown hgr; have MD := Lib.hid (made_rowF hown hgr); clear hown hgr))
    rw [HS.out] at MD ⊢
    go_loopw [6] (fun z wr => ∃ h : Nat, h ≤ L ∧ z = .int .i64 (h : Int) ∧ wr.heap[s]? = some (.cells (ints (rowF (sofar F h) L)).toArray 3 (0, 0)) ∧ Below s w wr) (fun z _ => L - (intOf z).toNat)
    case atStart => exact ⟨0, by omega, rfl, by rw [MD.out.2]; rfl, MD.out.1⟩
    case round =>
      obtain ⟨h, hhL, rfl, hg, hbl⟩ := hrel
      by_cases hlt : h < L
      · obtain ⟨b, o, x, hA1, hx, hc⟩ := (HR.out.below hbl (by rw [HS.out]; exact Nat.le_refl _)).int h (by rw [HL.out]; exact hlt)
        have HA1 := Lib.hid hA1
        subst hA1
        have hvx := upB_nth HUp.out (by omega) h
        rw [nth_get hx.out] at hvx
        have HDh := Lib.hid (show F h = x - ps h h by rw [HD.out h hlt, nth_get hx.out])
        have a0 : (0 : Int) ≤ (h : Int) := by omega
        have a1 : (h : Int) < (L : Int) := by omega
        have f0 := blk_free hg h
        have c0 : wr.cell? ⟨s, h, none⟩ = some (.int .i64 (sofar F h h)) := (blk_cell hg).trans (rowF_at hlt)
        have H1 := Lib.hid (show (wr.setCell ⟨s, h, none⟩ (.int .i64 x)).heap[s]? = some (.cells (ints (rowF (inS F h x) L)).toArray 3 (0, 0)) by
          rw [blk_set hg h _, rowF_set (G := inS F h x) (inS_at F h x).symm (fun j hj => by rw [← inS_0]; exact inS_ne hj)])
        have HB1 := Lib.hid (hbl.setCell (p := ⟨s, h, none⟩) (Nat.le_refl _) (.int .i64 x))
        obtain ⟨W, hW⟩ : ∃ W, wr.setCell ⟨s, h, none⟩ (.int .i64 x) = W := ⟨_, rfl⟩
        rw [hW] at H1 HB1
        have HWW := Lib.hid hW
        clear hg hbl hx hW
        go_wp2_with fail
        go_loopw [7] (fun z wr => ∃ g : Nat, g ≤ h ∧ z = .int .i64 (g : Int) ∧ wr.heap[s]? = some (.cells (ints (rowF (inS F h (x - ps h g)) L)).toArray 3 (0, 0)) ∧ Below s w wr) (fun z _ => h - (intOf z).toNat)
        case atStart => exact ⟨0, by omega, rfl, by rw [HP0.out, Int.sub_zero, HWW.out]; exact H1.out, by rw [HWW.out]; exact HB1.out⟩
        case round =>
          obtain ⟨g, hgh, rfl, hg, hbl⟩ := hrel
          by_cases hlt2 : g < h
          · have HPt := Lib.hid (part_any g h (by omega) (by omega) wr)
            have hp0 := HM.out h g (by omega)
            have hps := HPs.out h g
            have hfg := HMf.out g
            have b0 : (0 : Int) ≤ (g : Int) := by omega
            have b1 : (g : Int) < (h : Int) := by omega
            have b2 : (g : Int) < (L : Int) := by omega
            have c1 : wr.cell? ⟨s, h, none⟩ = some (.int .i64 (x - ps h g)) := by
              have := (blk_cell hg).trans (rowF_at (F := inS F h (x - ps h g)) hlt)
              rw [inS_at] at this
              exact this
            have c2 : wr.cell? ⟨s, g, none⟩ = some (.int .i64 (F g)) := by
              have := (blk_cell hg).trans (rowF_at (F := inS F h (x - ps h g)) (show g < L by omega))
              rw [inS_lt hlt2] at this
              exact this
            have f0 := blk_free hg h
            have HG := Lib.hid hg
            have HBL := Lib.hid hbl
            cases hpa : paB g h
            · rw [hpa] at hps HPt
              have hz : ps h (g + 1) = ps h g := by rw [hps]; simp
              have HN := Lib.hid (show wr.heap[s]? = some (.cells (ints (rowF (inS F h (x - ps h (g + 1))) L)).toArray 3 (0, 0)) by rw [hz]; exact hg)
              clear hg hbl hps hz hp0 hfg hpa
              go_wp2_with fail
              refine HPt.out.mono ?_
              rintro e w4 ⟨rfl, rfl⟩
              go_wp2_with fail
              go_roundw
              case rel => exact ⟨g + 1, by omega, by go_num, HN.out, HBL.out⟩
              case measure => simp [intOf]; omega
            · rw [hpa] at hps HPt
              have hz : x - ps h (g + 1) = x - ps h g - F g := by rw [hps, if_pos rfl]; omega
              have q1 : IntKind.i64.wrap (x - ps h g - F g) = x - ps h g - F g := wrapI_mid (by unfold Mid; omega)
              have HN := Lib.hid (show (wr.setCell ⟨s, h, none⟩ (.int .i64 (x - ps h g - F g))).drew.heap[s]? = some (.cells (ints (rowF (inS F h (x - ps h (g + 1))) L)).toArray 3 (0, 0)) by
                show (wr.setCell ⟨s, h, none⟩ (.int .i64 (x - ps h g - F g))).heap[s]? = _
                rw [blk_set hg h _, rowF_set (G := inS F h (x - ps h (g + 1))) (by rw [inS_at, hz]) (fun j hj => inS_ne hj)])
              have HB2 := Lib.hid ((hbl.setCell (p := ⟨s, h, none⟩) (Nat.le_refl _) (.int .i64 (x - ps h g - F g))).drew)
              clear hg hbl hps hz hp0 hfg hpa
              generalize x - ps h g = y at *
              go_wp2_with fail
              refine HPt.out.mono ?_
              rintro e w4 ⟨rfl, rfl⟩
              go_wp2_with fail
              go_region
              go_wp2_with fail
              go_roundw
              case rel => exact ⟨g + 1, by omega, by go_num, HN.out, HB2.out⟩
              case measure => simp [intOf]; omega
          · have hgh2 : g = h := by omega
            subst hgh2
            have HN := Lib.hid (show wr.heap[s]? = some (.cells (ints (rowF (sofar F (g + 1)) L)).toArray 3 (0, 0)) by rw [← inS_up HDh.out.symm]; exact hg)
            have HBL := Lib.hid hbl
            clear hg hbl hlt2
            go_wp2_with fail
            go_roundw
            case rel => exact ⟨g + 1, by omega, by go_num, HN.out, HBL.out⟩
            case measure => simp [intOf]; omega
      · have hgl : h = L := by omega
        subst hgl
        have HN := Lib.hid (show wr.heap[s]? = some (.cells (ints (rowF F h)).toArray 3 (0, 0)) by rw [hg, rowF_congr (F := sofar F h) (G := F) (fun p hp => if_pos hp)])
        have HBL := Lib.hid hbl
        have HF := Lib.hid (show Rd wr wr.heap.size (some ⟨s, 0, none⟩) (ints (rowF F h)) from RowC.rd ⟨_, HN.out, fun k hk => rowF_at hk⟩)
        clear hg hbl hlt
        go_wp2_with fail
        go_ret2
        exact ⟨some ⟨s, 0, none⟩, h, rfl, HF.out, by rw [HS.out]; exact HBL.out⟩
end Go.Proofs.Ytfmhanpibgmgfaa

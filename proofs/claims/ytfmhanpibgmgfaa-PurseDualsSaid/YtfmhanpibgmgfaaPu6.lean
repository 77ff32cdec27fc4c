/-
  Means of what players add: the walks of the weights, of means at both of them, Shapley, Banzhaf. Conditions: the list can be read.
-/
import Derived.Test.YtfmhanpibgmgfaaPu5
namespace Go.Proofs.Ytfmhanpibgmgfaa
open Go.RowKit
set_option linter.unusedVariables false

set_option maxRecDepth 4000 in
theorem wS_any (b a : Nat) (h : b + a ≤ 4) (w : World) :
    Calls Try.prog 60 #[.int .i64 (b : Int), .int .i64 (a : Int)] w fun e w' => e = .returned (.int .i64 (wS b a)) ∧ w = w' := by
  have H1 := Lib.hid (orders_any b (by omega))
  have H2 := Lib.hid (orders_any a (by omega))
  have hle := wS_le h
  have HX := Lib.hid (show wS b a = ((facN b : Nat) : Int) * ((facN a : Nat) : Int) by unfold wS; rw [Int.natCast_mul])
  have hq : wrap64 (((facN b : Nat) : Int) * ((facN a : Nat) : Int)) = ((facN b : Nat) : Int) * ((facN a : Nat) : Int) := by rw [← HX.out]; unfold wrap64; omega
  have HQ := Lib.hid hq
  generalize wS b a = z at *
  generalize facN b = x at *
  generalize facN a = y at *
  clear hle h
  go_enter Try.func60, Try.ntmps60
  go_wp2_with fail
  refine (H1.out w).mono ?_
  rintro e w' ⟨rfl, rfl⟩
  go_wp2_with fail
  refine (H2.out w).mono ?_
  rintro e w' ⟨rfl, rfl⟩
  go_wp2_with fail
  go_ret
  exact ⟨congrArg (fun z => Ending.returned (Value.int .i64 z)) (show wrap64 ((x : Int) * (y : Int)) = z by rw [HQ.out, HX.out]), rfl⟩
theorem wB_any (b a : Nat) (h : b + a ≤ 4) (w : World) :
    Calls Try.prog 64 #[.int .i64 (b : Int), .int .i64 (a : Int)] w fun e w' => e = .returned (.int .i64 (wB b a)) ∧ w = w' := by
  go_enter Try.func64, Try.ntmps64
  go_wp2_with fail
  go_ret
  exact ⟨rfl, rfl⟩
/-- What a player adds to one group, weighted. -/
def addG (v : List Int) (W : Nat → Nat → Int) (n p g : Nat) : Int := if g.testBit p = true then 0 else W (popN g) (n - 1 - popN g) * (nth v (g ||| 2 ^ p) - nth v g)
def wgtG (W : Nat → Nat → Int) (n p g : Nat) : Int := if g.testBit p = true then 0 else W (popN g) (n - 1 - popN g)
def meanF (v : List Int) (W : Nat → Nat → Int) (n p : Nat) : Int × Int := frZ (sI (addG v W n p) (2 ^ n)) (sI (wgtG W n p) (2 ^ n))
def pairF (q : Nat → Int × Int) (p : Nat) : Int := if p % 2 = 0 then (q (p / 2)).1 else (q (p / 2)).2
theorem pairF_0 (q : Nat → Int × Int) (i : Nat) : pairF q (i * 2) = (q i).1 := by
  unfold pairF
  rw [if_pos (by omega), show i * 2 / 2 = i by omega]
theorem pairF_1 (q : Nat → Int × Int) (i : Nat) : pairF q (i * 2 + 1) = (q i).2 := by
  unfold pairF
  rw [if_neg (by omega), show (i * 2 + 1) / 2 = i by omega]
def mnLen (v : List Int) : Nat := if vdE v = 0 then plN v.length else 0
def mnL (v : List Int) (W : Nat → Nat → Int) : List Int := if vdE v = 0 then rowF (pairF (meanF v W (plN v.length))) (plN v.length * 2) else []
/-- Weights that are small. -/
def WOk (W : Nat → Nat → Int) : Prop := ∀ b a, b + a ≤ 4 → 1 ≤ W b a ∧ W b a ≤ 24
theorem add_le {v : List Int} {W : Nat → Nat → Int} {n p : Nat} (hW : WOk W) (hn : n ≤ 5) (hp : p < n) (hv : upB 1000 v = true) (g : Nat) (hg : g < 2 ^ n) : -48000 ≤ addG v W n p g ∧ addG v W n p g ≤ 48000 := by
  unfold addG
  split
  · omega
  · rename_i h
    have h1 := pop_lt hn hp hg (by simpa using h)
    have h2 := hW (popN g) (n - 1 - popN g) (by omega)
    have h3 := upB_nth hv (by omega) (g ||| 2 ^ p)
    have h4 := upB_nth hv (by omega) g
    have := mul_le (A := 24) (B := 2000) (u := W (popN g) (n - 1 - popN g)) (v := nth v (g ||| 2 ^ p) - nth v g) (by omega) (by omega)
    omega
theorem wgt_le {W : Nat → Nat → Int} {n p : Nat} (hW : WOk W) (hn : n ≤ 5) (hp : p < n) (g : Nat) (hg : g < 2 ^ n) : 0 ≤ wgtG W n p g ∧ wgtG W n p g ≤ 24 := by
  unfold wgtG
  split
  · omega
  · rename_i h
    have h1 := pop_lt hn hp hg (by simpa using h)
    have h2 := hW (popN g) (n - 1 - popN g) (by omega)
    omega
theorem sums_le {v : List Int} {W : Nat → Nat → Int} {n p k : Nat} (hW : WOk W) (hn : n ≤ 5) (hp : p < n) (hv : upB 1000 v = true) (hk : k ≤ 2 ^ n) :
    (-1536000 ≤ sI (addG v W n p) k ∧ sI (addG v W n p) k ≤ 1536000) ∧ (0 ≤ sI (wgtG W n p) k ∧ sI (wgtG W n p) k ≤ 768) := by
  have h32 : 2 ^ n ≤ 2 ^ 5 := Nat.pow_le_pow_right (by omega) hn
  have h1 := sI_abs (f := addG v W n p) (B := 48000) (n := k) fun i hi => add_le hW hn hp hv i (by omega)
  have h2 := sI_abs (f := wgtG W n p) (B := 24) (n := k) fun i hi => by have := wgt_le hW hn hp i (by omega); omega
  have h3 := sI_le (f := fun _ => 0) (g := wgtG W n p) (n := k) fun i hi => (wgt_le hW hn hp i (by omega)).1
  rw [sI_zero] at h3
  have h4 : (k : Int) ≤ 32 := by omega
  omega
theorem sI_ge {f : Nat → Int} : ∀ {n : Nat}, (∀ i, i < n → 0 ≤ f i) → 0 < n → f 0 ≤ sI f n
  | 0, _, h => by omega
  | 1, _, _ => by show f 0 ≤ sI f 0 + f 0; show f 0 ≤ 0 + f 0; omega
  | n + 2, h, _ => by
    have h1 := sI_ge (n := n + 1) (fun i hi => h i (by omega)) (by omega)
    have h2 := h (n + 1) (by omega)
    show f 0 ≤ sI f (n + 1) + f (n + 1)
    omega
theorem wgt_pos {W : Nat → Nat → Int} {n p : Nat} (hW : WOk W) (hn : n ≤ 5) (hp : p < n) : 1 ≤ sI (wgtG W n p) (2 ^ n) := by
  have h1 := sI_ge (f := wgtG W n p) (n := 2 ^ n) (fun i hi => (wgt_le hW hn hp i hi).1) (Nat.two_pow_pos n)
  have h2 : wgtG W n p 0 = W 0 (n - 1) := by
    unfold wgtG
    rw [if_neg (by simp)]
    rfl
  have h3 := hW 0 (n - 1) (by omega)
  omega
theorem add_in {v : List Int} {W : Nat → Nat → Int} {n p k : Nat} (h : k.testBit p = true) : sI (addG v W n p) (k + 1) = sI (addG v W n p) k ∧ sI (wgtG W n p) (k + 1) = sI (wgtG W n p) k := by
  have h1 : addG v W n p k = 0 := if_pos h
  have h2 : wgtG W n p k = 0 := if_pos h
  constructor
  · show sI _ k + addG v W n p k = _
    rw [h1, Int.add_zero]
  · show sI _ k + wgtG W n p k = _
    rw [h2, Int.add_zero]
theorem add_out {v : List Int} {W : Nat → Nat → Int} {n p k : Nat} (h : k.testBit p = false) : sI (addG v W n p) (k + 1) = sI (addG v W n p) k + W (popN k) (n - 1 - popN k) * (nth v (k ||| 2 ^ p) - nth v k) ∧ sI (wgtG W n p) (k + 1) = sI (wgtG W n p) k + W (popN k) (n - 1 - popN k) := by
  have h' : ¬ k.testBit p = true := by rw [h]; simp
  have h1 : addG v W n p k = W (popN k) (n - 1 - popN k) * (nth v (k ||| 2 ^ p) - nth v k) := if_neg h'
  have h2 : wgtG W n p k = W (popN k) (n - 1 - popN k) := if_neg h'
  constructor
  · show sI _ k + addG v W n p k = _
    rw [h1]
  · show sI _ k + wgtG W n p k = _
    rw [h2]
theorem eRat : Elem Try.prog 31 36 (.agg #[.int .i64 0, .int .i64 0]) 2 16 := ⟨Try.underlying31, by kernel_rfl, rfl, by decide, by decide⟩
theorem vd_bad (v : List Int) (h : vdE v ≠ 0) : vdE v = 1 := (vdE_01 v).resolve_left h
set_option maxRecDepth 8000 in
set_option maxHeartbeats 4000000 in
theorem meansS_any (A : Option Addr) (v : List Int) (c : Nat) (hl : v.length ≤ 9223372036854775807) (w : World) (hr : Rd w w.heap.size A (ints v)) :
    Calls Try.prog 59 #[.slice A v.length c, .func (.func 60) #[] #[]] w fun e w' => ∃ A' c', e = .returned (.tuple #[.slice A' (mnLen v) c', .int .i64 (vdE v)]) ∧ Rd w' w'.heap.size A' (ints (mnL v wS)) ∧ Below w.heap.size w w' := by
  have HV := Lib.hid (Validate_any A v c hl w hr)
  by_cases hv : vdE v = 0
  case neg =>
    have HX := Lib.hid (show mnLen v = 0 from if_neg hv)
    have HY := Lib.hid (show mnL v wS = [] from if_neg hv)
    rw [vd_bad v hv] at HV ⊢
    rw [HX.out, HY.out]
    generalize v.length = m at *
    clear hr hv
    go_enter Try.func59, Try.ntmps59
    go_wp2_with fail
    refine HV.out.mono ?_
    rintro e w1 ⟨rfl, hb⟩
    have HB := Lib.hid hb
    clear hb
    go_wp2_with fail
    go_ret2
    exact ⟨none, 0, rfl, Rd.nil_, HB.out⟩
  case pos =>
    obtain ⟨n, pv, hup⟩ := vdE_pv hv
    have HU := Lib.hid hup
    have HMF := Lib.hid (show mnL v wS = rowF (pairF (meanF v wS n)) (n * 2) by unfold mnL; rw [if_pos hv, pv.pl])
    have HMN := Lib.hid (show mnLen v = n by unfold mnLen; rw [if_pos hv, pv.pl])
    have HP := Lib.hid (fun w => players_any A v.length c hl w)
    have hpz := pv.plZ
    rw [hv] at HV ⊢
    rw [hpz] at HP
    rw [HMF.out, HMN.out]
    have HR := Lib.hid hr
    have HLen := Lib.hid pv.len
    have hn1 := pv.one
    have hn5 := pv.five
    have h32 := pv.le
    obtain ⟨L, hL⟩ : ∃ L, v.length = L := ⟨_, rfl⟩
    have HL := Lib.hid hL
    have HL2 := Lib.hid (show L = 2 ^ n by rw [← hL]; exact pv.len)
    rw [hL] at HV HP h32 ⊢
    have hWok : WOk wS := fun b a h => wS_le h
    have HW := Lib.hid hWok
    obtain ⟨i0, hi0, hz0, hz1, hz2⟩ := info_parts eRat.hi
    clear hr hv hup hpz hL pv hWok hl
    go_enter Try.func59, Try.ntmps59
    go_wp2_with fail
    refine HV.out.mono ?_
    rintro e w1 ⟨rfl, hb⟩
    have HB1 := Lib.hid hb
    have HR1 := Lib.hid (HR.out.below hb (Nat.le_refl _))
    clear hb HV
    obtain ⟨s, hs⟩ : ∃ s, w1.heap.size = s := ⟨_, rfl⟩
    have HS := Lib.hid hs
    have hBs : w.heap.size ≤ s := by rw [← hs]; exact HB1.out.size
    clear hs
    go_wp2_with (first
      | (go_at_call 51; refine (HP.out w1).mono ?_; rintro e w2 ⟨rfl, rfl⟩)
      | (at_make; refine wpList_make_full _ rfl (.tmp 21) (.tmp 21) 31 rfl w1.heap.size 36 i0 (.agg #[.int .i64 0, .int .i64 0]) 2 Try.underlying31 hi0 hz0 hz1 .i64 .i64 _ _ n rfl rfl rfl rfl (by rw [hz2]; omega) (by simp only [maxLen]; omega) (Nat.le_refl _) ?_; intro w3 hown hgr; have MD := Lib.hid (made_rats hown hgr); clear hown hgr))
    rw [HS.out] at MD ⊢
    go_loopw [25] (fun z wr => ∃ i : Nat, i ≤ n ∧ z = .int .i64 i ∧ wr.heap[s]? = some (.cells (ints (rowF (sofar (pairF (meanF v wS n)) (i * 2)) (n * 2))).toArray 36 (0, 0)) ∧ Below s w1 wr) (fun z _ => n - (intOf z).toNat)
    case atStart => exact ⟨0, by omega, rfl, by rw [MD.out.2, rowF_congr (F := sofar (pairF (meanF v wS n)) (0 * 2)) (G := fun _ => 0) (fun p _ => if_neg (by omega))], MD.out.1⟩
    case round =>
      obtain ⟨i, hi, rfl, hg, hbl⟩ := hrel
      have HG := Lib.hid hg
      have HBL := Lib.hid hbl
      have HRr := Lib.hid (HR1.out.below hbl hBs)
      by_cases hlt : i < n
      · have b0 : (0 : Int) ≤ (i : Int) := by omega
        have b1 : (i : Int) < (n : Int) := by omega
        have HSum := Lib.hid (fun k (hk : k ≤ 2 ^ n) => sums_le (p := i) (k := k) HW.out hn5 hlt HU.out hk)
        have HIn := Lib.hid (fun k (h : k.testBit i = true) => add_in (v := v) (W := wS) (n := n) (p := i) (k := k) h)
        have HOut := Lib.hid (fun k (h : k.testBit i = false) => add_out (v := v) (W := wS) (n := n) (p := i) (k := k) h)
        have HPop := Lib.hid (fun k (hk : k < 2 ^ n) (h : k.testBit i = false) => pop_lt hn5 hlt hk h)
        have hi40 : i < 40 := by omega
        have HAl := Lib.hid (alone_any i hi40)
        have hpow := pow5 hi40
        have HY := Lib.hid (show 2 ^ i < 2 ^ n from Nat.pow_lt_pow_right (by omega) hlt)
        have HMi := Lib.hid (show meanF v wS n i = frZ (sI (addG v wS n i) L) (sI (wgtG wS n i) L) by rw [HL2.out]; rfl)
        have HWp := Lib.hid (show 1 ≤ sI (wgtG wS n i) L by rw [HL2.out]; exact wgt_pos HW.out hn5 hlt)
        rw [← HL2.out] at HSum HPop HY
        have HZ0 := Lib.hid (show sI (addG v wS n i) 0 = 0 ∧ sI (wgtG wS n i) 0 = 0 from ⟨rfl, rfl⟩)
        generalize sI (addG v wS n i) = sA at *
        generalize sI (wgtG wS n i) = sW at *
        have HIs := Lib.hid (fun g (hg : g < 9223372036854775808) w => isIn_any i g hi40 hg w)
        have HOr := Lib.hid (fun g (hg : g < L) => show g ||| 2 ^ i < L by rw [HL2.out]; exact Nat.or_lt_two_pow (by rw [← HL2.out]; exact hg) (by rw [← HL2.out]; exact HY.out))
        generalize (2 ^ i : Nat) = y at *
        go_wp2_with fail
        obtain ⟨wo, rfl⟩ : ∃ wo : World, wo = wr := ⟨_, rfl⟩
        clear hg hbl
        go_loopw [10, 11, 31] (fun tv wv gv wr => ∃ (g m : Nat), g ≤ L ∧ tv = .int .i64 (sA g) ∧ wv = .int .i64 (sW g) ∧ gv = .int .i64 (g : Int) ∧ wr = wo.drewN m) (fun _ _ gv _ => L - (intOf gv).toNat)
        case atStart => exact ⟨0, 0, by omega, by rw [HZ0.out.1], by rw [HZ0.out.2], rfl, rfl⟩
        case round =>
          obtain ⟨g, m, hgL, rfl, rfl, rfl, hw⟩ := hrel
          have HWW := Lib.hid hw
          by_cases hgl : g < L
          · have hRd : Rd wr w.heap.size A (ints v) := by rw [hw]; exact HRr.out.drewN m
            have hor := HOr.out g hgl
            obtain ⟨b, o, d, rfl, hd, hc⟩ := hRd.int g (by rw [HL.out]; exact hgl)
            obtain ⟨b2, o2, d2, hA2, hd2, hc2⟩ := hRd.int (g ||| y) (by rw [HL.out]; exact hor)
            cases hA2
            have HD := Lib.hid (nth_get hd.out)
            have HD2 := Lib.hid (nth_get hd2.out)
            have c0 : (0 : Int) ≤ (g : Int) := by omega
            have c1 : (g : Int) < (L : Int) := by omega
            have HI := Lib.hid (HIs.out g (by omega) wr)
            cases ht : g.testBit i
            · have hpop := HPop.out g hgl ht
              have HO := Lib.hid (HOut.out g ht)
              have HOC := Lib.hid (OnesCount_any g (by omega))
              have HWc := Lib.hid (fun w => wS_any (popN g) (n - 1 - popN g) (by omega) w)
              have hww := HW.out (popN g) (n - 1 - popN g) (by omega)
              have hcast : ((n - 1 - popN g : Nat) : Int) = (n : Int) - 1 - ((popN g : Nat) : Int) := by omega
              have hs1 := HSum.out g (by omega)
              have hs2 := HSum.out (g + 1) (by omega)
              rw [HD.out, HD2.out] at HO
              rw [HO.out.1, HO.out.2] at hs2
              rw [hcast] at HWc
              rw [ht] at HI
              have hcor : bits .or .i64 (g : Int) (y : Int) = ((g ||| y : Nat) : Int) := i64_or_nat g y (by omega) (by have := HY.out; omega)
              have hv1 := upB_nth HU.out (by omega) g
              have hv2 := upB_nth HU.out (by omega) (g ||| y)
              rw [HD.out] at hv1
              rw [HD2.out] at hv2
              generalize wS (popN g) (n - 1 - popN g) = Wv at *
              generalize (popN g) = pc at *
              generalize (g ||| y) = gy at *
              have c2 : (0 : Int) ≤ (gy : Int) := by omega
              have c3 : (gy : Int) < (L : Int) := by omega
              have hm := mul_le (A := 24) (B := 2000) (u := Wv) (v := d2 - d) (by omega) (by omega)
              have q1 : IntKind.i64.wrap (d2 - d) = d2 - d := wrapI_mid (by unfold Mid; omega)
              have q2 : IntKind.i64.wrap (Wv * (d2 - d)) = Wv * (d2 - d) := wrapI_mid (by unfold Mid; omega)
              have q3 : IntKind.i64.wrap (sA g + Wv * (d2 - d)) = sA g + Wv * (d2 - d) := wrapI_mid (by unfold Mid; omega)
              have q4 : wrap64 (sW g + Wv) = sW g + Wv := wrap_mid (by unfold Mid; omega)
              have HQ4 := Lib.hid q4
              have q5 : wrap64 ((n : Int) - 1 - (pc : Int)) = (n : Int) - 1 - (pc : Int) := wrap_mid (by unfold Mid; omega)
              have hcv : IntKind.u64.wrap (g : Int) = (g : Int) := by rw [IntKind.wrap_u64]; omega
              have HR1' := Lib.hid (show sA (g + 1) = sA g + Wv * (d2 - d) from HO.out.1)
              have HR2' := Lib.hid (show sW (g + 1) = sW g + Wv from HO.out.2)
              have H2A := Lib.hid (fun w => HAl.out w)
              clear hd hd2 hRd hs1 hs2 hww hv1 hv2 hm hcast hw ht hpop HO hor
              go_wp2_with fail
              refine HI.out.mono ?_
              rintro e w4 ⟨rfl, rfl⟩
              go_wp2_with fail
              refine (HOC.out _).mono ?_
              rintro e w4 ⟨rfl, rfl⟩
              go_wp2_with fail
              refine (HWc.out _).mono ?_
              rintro e w4 ⟨rfl, rfl⟩
              go_wp2_with fail
              go_quiet ((go_at_call 54; first | exact qs (HAl.out _) | exact qs0 (HAl.out _)))
              go_wp2_with fail
              go_roundw
              case rel => exact ⟨g + 1, _, by omega, by rw [HR1'.out], by rw [HR2'.out] <;> first | rfl | rw [HQ4.out], by go_num, by rw [HWW.out]; exact World.drewN_drewN _ _ _⟩
              case measure => simp [intOf]; omega
            · have HO := Lib.hid (HIn.out g ht)
              rw [ht] at HI
              clear hd hd2 hRd hw ht hor
              go_wp2_with fail
              refine HI.out.mono ?_
              rintro e w4 ⟨rfl, rfl⟩
              go_wp2_with fail
              go_roundw
              case rel => exact ⟨g + 1, m, by omega, by rw [HO.out.1], by rw [HO.out.2], by go_num, HWW.out⟩
              case measure => simp [intOf]; omega
          · have hgL2 : g = L := by omega
            subst hgL2
            have hs1 := HSum.out g (Nat.le_refl _)
            have hne := HWp.out
            have HFr := Lib.hid (fraction_any (sA g) (sW g) (by unfold Mid; omega) (by unfold Mid; omega) (by omega) wr)
            rw [← HMi.out] at HFr
            have HV0 := Lib.hid (pairF_0 (meanF v wS n) i)
            have HV1 := Lib.hid (pairF_1 (meanF v wS n) i)
            obtain ⟨⟨q1, q2⟩, hq⟩ : ∃ q, meanF v wS n i = q := ⟨_, rfl⟩
            rw [hq] at HFr HV0 HV1
            unfold ratZ at HFr
            simp only at HFr HV0 HV1
            have hGr : wr.heap[s]? = some (.cells (ints (rowF (sofar (pairF (meanF v wS n)) (i * 2)) (n * 2))).toArray 36 (0, 0)) := by rw [hw]; exact HG.out
            have HGr := Lib.hid hGr
            have HBr := Lib.hid (show Below s w1 wr by rw [hw]; exact bdN' HBL.out m)
            have HSr := Lib.hid (lt_of_block' hGr)
            clear hs1 hne hq hw hgl hGr
            go_wp2_with fail
            refine HFr.out.mono ?_
            rintro e w4 ⟨rfl, hb4⟩
            have X1 := (hb4.block s HSr.out).trans HGr.out
            obtain ⟨d0, f0, d1, f1, HX2⟩ := put2at (F := pairF (meanF v wS n)) (j := i) (n := n) hlt X1 HV0.out HV1.out
            have HBn := Lib.hid ((HBr.out.trans (hb4.mono (Nat.le_of_lt HSr.out))).setCell (p := ⟨s, i * 2, none⟩) (Nat.le_refl _) (.int .i64 q1))
            have HBm := Lib.hid (HBn.out.setCell (p := ⟨s, i * 2 + 1, none⟩) (Nat.le_refl _) (.int .i64 q2))
            clear hb4 X1
            go_wp2_with fail
            go_roundw
            case rel => exact ⟨i + 1, by omega, by go_num, HX2.out, HBm.out⟩
            case measure => simp [intOf]; omega
      · have hin : i = n := by omega
        subst hin
        have HRz := Lib.hid (show wr.heap[s]? = some (.cells (ints (rowF (pairF (meanF v wS i)) (i * 2))).toArray 36 (0, 0)) by rw [hg, rowF_congr (F := sofar (pairF (meanF v wS i)) (i * 2)) (G := pairF (meanF v wS i)) fun p hp => if_pos hp])
        clear hlt hg hbl
        go_wp2_with fail
        go_ret2
        exact ⟨some ⟨s, 0, none⟩, i, rfl, Rd.of_block HRz.out, HB1.out.trans (HBL.out.mono hBs)⟩
theorem Shapley_any (A : Option Addr) (v : List Int) (c : Nat) (hl : v.length ≤ 9223372036854775807) (w : World) (hr : Rd w w.heap.size A (ints v)) :
    Calls Try.prog 24 #[.slice A v.length c] w fun e w' => ∃ A' c', e = .returned (.tuple #[.slice A' (mnLen v) c', .int .i64 (vdE v)]) ∧ Rd w' w'.heap.size A' (ints (mnL v wS)) ∧ Below w.heap.size w w' := by
  have H := Lib.hid (meansS_any A v c hl w hr)
  generalize mnLen v = n at *
  generalize mnL v wS = l at *
  generalize vdE v = E at *
  generalize v.length = m at *
  clear hr
  go_enter Try.func24, Try.ntmps24
  go_wp2_with fail
  refine H.out.mono ?_
  rintro e w1 ⟨A', c', rfl, hr, hb⟩
  have HR := Lib.hid hr
  have HB := Lib.hid hb
  clear hr hb
  go_wp2_with fail
  go_ret2
  exact ⟨A', c', rfl, HR.out, HB.out⟩
set_option maxRecDepth 8000 in
set_option maxHeartbeats 4000000 in
theorem meansB_any (A : Option Addr) (v : List Int) (c : Nat) (hl : v.length ≤ 9223372036854775807) (w : World) (hr : Rd w w.heap.size A (ints v)) :
    Calls Try.prog 59 #[.slice A v.length c, .func (.func 64) #[] #[]] w fun e w' => ∃ A' c', e = .returned (.tuple #[.slice A' (mnLen v) c', .int .i64 (vdE v)]) ∧ Rd w' w'.heap.size A' (ints (mnL v wB)) ∧ Below w.heap.size w w' := by
  have HV := Lib.hid (Validate_any A v c hl w hr)
  by_cases hv : vdE v = 0
  case neg =>
    have HX := Lib.hid (show mnLen v = 0 from if_neg hv)
    have HY := Lib.hid (show mnL v wB = [] from if_neg hv)
    rw [vd_bad v hv] at HV ⊢
    rw [HX.out, HY.out]
    generalize v.length = m at *
    clear hr hv
    go_enter Try.func59, Try.ntmps59
    go_wp2_with fail
    refine HV.out.mono ?_
    rintro e w1 ⟨rfl, hb⟩
    have HB := Lib.hid hb
    clear hb
    go_wp2_with fail
    go_ret2
    exact ⟨none, 0, rfl, Rd.nil_, HB.out⟩
  case pos =>
    obtain ⟨n, pv, hup⟩ := vdE_pv hv
    have HU := Lib.hid hup
    have HMF := Lib.hid (show mnL v wB = rowF (pairF (meanF v wB n)) (n * 2) by unfold mnL; rw [if_pos hv, pv.pl])
    have HMN := Lib.hid (show mnLen v = n by unfold mnLen; rw [if_pos hv, pv.pl])
    have HP := Lib.hid (fun w => players_any A v.length c hl w)
    have hpz := pv.plZ
    rw [hv] at HV ⊢
    rw [hpz] at HP
    rw [HMF.out, HMN.out]
    have HR := Lib.hid hr
    have HLen := Lib.hid pv.len
    have hn1 := pv.one
    have hn5 := pv.five
    have h32 := pv.le
    obtain ⟨L, hL⟩ : ∃ L, v.length = L := ⟨_, rfl⟩
    have HL := Lib.hid hL
    have HL2 := Lib.hid (show L = 2 ^ n by rw [← hL]; exact pv.len)
    rw [hL] at HV HP h32 ⊢
    have hWok : WOk wB := fun b a h => wB_le h
    have HW := Lib.hid hWok
    obtain ⟨i0, hi0, hz0, hz1, hz2⟩ := info_parts eRat.hi
    clear hr hv hup hpz hL pv hWok hl
    go_enter Try.func59, Try.ntmps59
    go_wp2_with fail
    refine HV.out.mono ?_
    rintro e w1 ⟨rfl, hb⟩
    have HB1 := Lib.hid hb
    have HR1 := Lib.hid (HR.out.below hb (Nat.le_refl _))
    clear hb HV
    obtain ⟨s, hs⟩ : ∃ s, w1.heap.size = s := ⟨_, rfl⟩
    have HS := Lib.hid hs
    have hBs : w.heap.size ≤ s := by rw [← hs]; exact HB1.out.size
    clear hs
    go_wp2_with (first
      | (go_at_call 51; refine (HP.out w1).mono ?_; rintro e w2 ⟨rfl, rfl⟩)
      | (at_make; refine wpList_make_full _ rfl (.tmp 21) (.tmp 21) 31 rfl w1.heap.size 36 i0 (.agg #[.int .i64 0, .int .i64 0]) 2 Try.underlying31 hi0 hz0 hz1 .i64 .i64 _ _ n rfl rfl rfl rfl (by rw [hz2]; omega) (by simp only [maxLen]; omega) (Nat.le_refl _) ?_; intro w3 hown hgr; have MD := Lib.hid (made_rats hown hgr); clear hown hgr))
    rw [HS.out] at MD ⊢
    go_loopw [25] (fun z wr => ∃ i : Nat, i ≤ n ∧ z = .int .i64 i ∧ wr.heap[s]? = some (.cells (ints (rowF (sofar (pairF (meanF v wB n)) (i * 2)) (n * 2))).toArray 36 (0, 0)) ∧ Below s w1 wr) (fun z _ => n - (intOf z).toNat)
    case atStart => exact ⟨0, by omega, rfl, by rw [MD.out.2, rowF_congr (F := sofar (pairF (meanF v wB n)) (0 * 2)) (G := fun _ => 0) (fun p _ => if_neg (by omega))], MD.out.1⟩
    case round =>
      obtain ⟨i, hi, rfl, hg, hbl⟩ := hrel
      have HG := Lib.hid hg
      have HBL := Lib.hid hbl
      have HRr := Lib.hid (HR1.out.below hbl hBs)
      by_cases hlt : i < n
      · have b0 : (0 : Int) ≤ (i : Int) := by omega
        have b1 : (i : Int) < (n : Int) := by omega
        have HSum := Lib.hid (fun k (hk : k ≤ 2 ^ n) => sums_le (p := i) (k := k) HW.out hn5 hlt HU.out hk)
        have HIn := Lib.hid (fun k (h : k.testBit i = true) => add_in (v := v) (W := wB) (n := n) (p := i) (k := k) h)
        have HOut := Lib.hid (fun k (h : k.testBit i = false) => add_out (v := v) (W := wB) (n := n) (p := i) (k := k) h)
        have HPop := Lib.hid (fun k (hk : k < 2 ^ n) (h : k.testBit i = false) => pop_lt hn5 hlt hk h)
        have hi40 : i < 40 := by omega
        have HAl := Lib.hid (alone_any i hi40)
        have hpow := pow5 hi40
        have HY := Lib.hid (show 2 ^ i < 2 ^ n from Nat.pow_lt_pow_right (by omega) hlt)
        have HMi := Lib.hid (show meanF v wB n i = frZ (sI (addG v wB n i) L) (sI (wgtG wB n i) L) by rw [HL2.out]; rfl)
        have HWp := Lib.hid (show 1 ≤ sI (wgtG wB n i) L by rw [HL2.out]; exact wgt_pos HW.out hn5 hlt)
        rw [← HL2.out] at HSum HPop HY
        have HZ0 := Lib.hid (show sI (addG v wB n i) 0 = 0 ∧ sI (wgtG wB n i) 0 = 0 from ⟨rfl, rfl⟩)
        generalize sI (addG v wB n i) = sA at *
        generalize sI (wgtG wB n i) = sW at *
        have HIs := Lib.hid (fun g (hg : g < 9223372036854775808) w => isIn_any i g hi40 hg w)
        have HOr := Lib.hid (fun g (hg : g < L) => show g ||| 2 ^ i < L by rw [HL2.out]; exact Nat.or_lt_two_pow (by rw [← HL2.out]; exact hg) (by rw [← HL2.out]; exact HY.out))
        generalize (2 ^ i : Nat) = y at *
        go_wp2_with fail
        obtain ⟨wo, rfl⟩ : ∃ wo : World, wo = wr := ⟨_, rfl⟩
        clear hg hbl
        go_loopw [10, 11, 31] (fun tv wv gv wr => ∃ (g m : Nat), g ≤ L ∧ tv = .int .i64 (sA g) ∧ wv = .int .i64 (sW g) ∧ gv = .int .i64 (g : Int) ∧ wr = wo.drewN m) (fun _ _ gv _ => L - (intOf gv).toNat)
        case atStart => exact ⟨0, 0, by omega, by rw [HZ0.out.1], by rw [HZ0.out.2], rfl, rfl⟩
        case round =>
          obtain ⟨g, m, hgL, rfl, rfl, rfl, hw⟩ := hrel
          have HWW := Lib.hid hw
          by_cases hgl : g < L
          · have hRd : Rd wr w.heap.size A (ints v) := by rw [hw]; exact HRr.out.drewN m
            have hor := HOr.out g hgl
            obtain ⟨b, o, d, rfl, hd, hc⟩ := hRd.int g (by rw [HL.out]; exact hgl)
            obtain ⟨b2, o2, d2, hA2, hd2, hc2⟩ := hRd.int (g ||| y) (by rw [HL.out]; exact hor)
            cases hA2
            have HD := Lib.hid (nth_get hd.out)
            have HD2 := Lib.hid (nth_get hd2.out)
            have c0 : (0 : Int) ≤ (g : Int) := by omega
            have c1 : (g : Int) < (L : Int) := by omega
            have HI := Lib.hid (HIs.out g (by omega) wr)
            cases ht : g.testBit i
            · have hpop := HPop.out g hgl ht
              have HO := Lib.hid (HOut.out g ht)
              have HOC := Lib.hid (OnesCount_any g (by omega))
              have HWc := Lib.hid (fun w => wB_any (popN g) (n - 1 - popN g) (by omega) w)
              have hww := HW.out (popN g) (n - 1 - popN g) (by omega)
              have hcast : ((n - 1 - popN g : Nat) : Int) = (n : Int) - 1 - ((popN g : Nat) : Int) := by omega
              have hs1 := HSum.out g (by omega)
              have hs2 := HSum.out (g + 1) (by omega)
              rw [HD.out, HD2.out] at HO
              rw [HO.out.1, HO.out.2] at hs2
              rw [hcast] at HWc
              rw [ht] at HI
              have hcor : bits .or .i64 (g : Int) (y : Int) = ((g ||| y : Nat) : Int) := i64_or_nat g y (by omega) (by have := HY.out; omega)
              have hv1 := upB_nth HU.out (by omega) g
              have hv2 := upB_nth HU.out (by omega) (g ||| y)
              rw [HD.out] at hv1
              rw [HD2.out] at hv2
              generalize wB (popN g) (n - 1 - popN g) = Wv at *
              generalize (popN g) = pc at *
              generalize (g ||| y) = gy at *
              have c2 : (0 : Int) ≤ (gy : Int) := by omega
              have c3 : (gy : Int) < (L : Int) := by omega
              have hm := mul_le (A := 24) (B := 2000) (u := Wv) (v := d2 - d) (by omega) (by omega)
              have q1 : IntKind.i64.wrap (d2 - d) = d2 - d := wrapI_mid (by unfold Mid; omega)
              have q2 : IntKind.i64.wrap (Wv * (d2 - d)) = Wv * (d2 - d) := wrapI_mid (by unfold Mid; omega)
              have q3 : IntKind.i64.wrap (sA g + Wv * (d2 - d)) = sA g + Wv * (d2 - d) := wrapI_mid (by unfold Mid; omega)
              have q4 : wrap64 (sW g + Wv) = sW g + Wv := wrap_mid (by unfold Mid; omega)
              have HQ4 := Lib.hid q4
              have q5 : wrap64 ((n : Int) - 1 - (pc : Int)) = (n : Int) - 1 - (pc : Int) := wrap_mid (by unfold Mid; omega)
              have hcv : IntKind.u64.wrap (g : Int) = (g : Int) := by rw [IntKind.wrap_u64]; omega
              have HR1' := Lib.hid (show sA (g + 1) = sA g + Wv * (d2 - d) from HO.out.1)
              have HR2' := Lib.hid (show sW (g + 1) = sW g + Wv from HO.out.2)
              have H2A := Lib.hid (fun w => HAl.out w)
              clear hd hd2 hRd hs1 hs2 hww hv1 hv2 hm hcast hw ht hpop HO hor
              go_wp2_with fail
              refine HI.out.mono ?_
              rintro e w4 ⟨rfl, rfl⟩
              go_wp2_with fail
              refine (HOC.out _).mono ?_
              rintro e w4 ⟨rfl, rfl⟩
              go_wp2_with fail
              refine (HWc.out _).mono ?_
              rintro e w4 ⟨rfl, rfl⟩
              go_wp2_with fail
              go_quiet ((go_at_call 54; first | exact qs (HAl.out _) | exact qs0 (HAl.out _)))
              go_wp2_with fail
              go_roundw
              case rel => exact ⟨g + 1, _, by omega, by rw [HR1'.out], by rw [HR2'.out] <;> first | rfl | rw [HQ4.out], by go_num, by rw [HWW.out]; exact World.drewN_drewN _ _ _⟩
              case measure => simp [intOf]; omega
            · have HO := Lib.hid (HIn.out g ht)
              rw [ht] at HI
              clear hd hd2 hRd hw ht hor
              go_wp2_with fail
              refine HI.out.mono ?_
              rintro e w4 ⟨rfl, rfl⟩
              go_wp2_with fail
              go_roundw
              case rel => exact ⟨g + 1, m, by omega, by rw [HO.out.1], by rw [HO.out.2], by go_num, HWW.out⟩
              case measure => simp [intOf]; omega
          · have hgL2 : g = L := by omega
            subst hgL2
            have hs1 := HSum.out g (Nat.le_refl _)
            have hne := HWp.out
            have HFr := Lib.hid (fraction_any (sA g) (sW g) (by unfold Mid; omega) (by unfold Mid; omega) (by omega) wr)
            rw [← HMi.out] at HFr
            have HV0 := Lib.hid (pairF_0 (meanF v wB n) i)
            have HV1 := Lib.hid (pairF_1 (meanF v wB n) i)
            obtain ⟨⟨q1, q2⟩, hq⟩ : ∃ q, meanF v wB n i = q := ⟨_, rfl⟩
            rw [hq] at HFr HV0 HV1
            unfold ratZ at HFr
            simp only at HFr HV0 HV1
            have hGr : wr.heap[s]? = some (.cells (ints (rowF (sofar (pairF (meanF v wB n)) (i * 2)) (n * 2))).toArray 36 (0, 0)) := by rw [hw]; exact HG.out
            have HGr := Lib.hid hGr
            have HBr := Lib.hid (show Below s w1 wr by rw [hw]; exact bdN' HBL.out m)
            have HSr := Lib.hid (lt_of_block' hGr)
            clear hs1 hne hq hw hgl hGr
            go_wp2_with fail
            refine HFr.out.mono ?_
            rintro e w4 ⟨rfl, hb4⟩
            have X1 := (hb4.block s HSr.out).trans HGr.out
            obtain ⟨d0, f0, d1, f1, HX2⟩ := put2at (F := pairF (meanF v wB n)) (j := i) (n := n) hlt X1 HV0.out HV1.out
            have HBn := Lib.hid ((HBr.out.trans (hb4.mono (Nat.le_of_lt HSr.out))).setCell (p := ⟨s, i * 2, none⟩) (Nat.le_refl _) (.int .i64 q1))
            have HBm := Lib.hid (HBn.out.setCell (p := ⟨s, i * 2 + 1, none⟩) (Nat.le_refl _) (.int .i64 q2))
            clear hb4 X1
            go_wp2_with fail
            go_roundw
            case rel => exact ⟨i + 1, by omega, by go_num, HX2.out, HBm.out⟩
            case measure => simp [intOf]; omega
      · have hin : i = n := by omega
        subst hin
        have HRz := Lib.hid (show wr.heap[s]? = some (.cells (ints (rowF (pairF (meanF v wB i)) (i * 2))).toArray 36 (0, 0)) by rw [hg, rowF_congr (F := sofar (pairF (meanF v wB i)) (i * 2)) (G := pairF (meanF v wB i)) fun p hp => if_pos hp])
        clear hlt hg hbl
        go_wp2_with fail
        go_ret2
        exact ⟨some ⟨s, 0, none⟩, i, rfl, Rd.of_block HRz.out, HB1.out.trans (HBL.out.mono hBs)⟩
theorem Banzhaf_any (A : Option Addr) (v : List Int) (c : Nat) (hl : v.length ≤ 9223372036854775807) (w : World) (hr : Rd w w.heap.size A (ints v)) :
    Calls Try.prog 26 #[.slice A v.length c] w fun e w' => ∃ A' c', e = .returned (.tuple #[.slice A' (mnLen v) c', .int .i64 (vdE v)]) ∧ Rd w' w'.heap.size A' (ints (mnL v wB)) ∧ Below w.heap.size w w' := by
  have H := Lib.hid (meansB_any A v c hl w hr)
  generalize mnLen v = n at *
  generalize mnL v wB = l at *
  generalize vdE v = E at *
  generalize v.length = m at *
  clear hr
  go_enter Try.func26, Try.ntmps26
  go_wp2_with fail
  refine H.out.mono ?_
  rintro e w1 ⟨A', c', rfl, hr, hb⟩
  have HR := Lib.hid hr
  have HB := Lib.hid hb
  clear hr hb
  go_wp2_with fail
  go_ret2
  exact ⟨A', c', rfl, HR.out, HB.out⟩
end Go.Proofs.Ytfmhanpibgmgfaa

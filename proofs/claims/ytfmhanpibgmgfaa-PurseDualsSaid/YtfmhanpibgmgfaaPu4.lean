/-
  Purses: the walks of players, areUpTo, areForGroups, Validate, whole, alone, isIn, of slices.IndexFunc and ContainsFunc at areUpTo's test. Condition: the lists can be read.
-/
import Derived.Test.YtfmhanpibgmgfaaPu3
import Derived.Test.YtfmhanpibgmgfaaShp
import Derived.Laws.EntriesVeiled
namespace Go.Proofs.Ytfmhanpibgmgfaa
open Go.RowKit
set_option linter.unusedVariables false

/-- bits.Len less one. -/
def plZ (m : Nat) : Int := ((Lib.bitLen m : Nat) : Int) - 1
theorem plZ_small : ∀ m : Fin 64, plZ m.val = if m.val = 0 then -1 else if m.val = 1 then 0 else if m.val < 4 then 1 else if m.val < 8 then 2 else if m.val < 16 then 3 else if m.val < 32 then 4 else 5 := by decide +kernel
theorem plZ_big {m : Nat} (h : 64 ≤ m) (h2 : m ≤ 9223372036854775807) : 5 < plZ m ∧ plZ m < 100 := by
  have h1 := Lib.bitLen_shift 6 m (by omega) (by omega)
  have h3 := Lib.bitLen_le (m / 2 ^ 6) 64 (Nat.le_refl _) (Nat.lt_of_le_of_lt (Nat.div_le_self _ _) (by omega))
  have h4 := Lib.bitLen_half (m / 2 ^ 6) (by omega) (Nat.lt_of_le_of_lt (Nat.div_le_self _ _) (by omega))
  unfold plZ
  omega
theorem plZ_cases {m : Nat} (h2 : m ≤ 9223372036854775807) : plZ m < 1 ∨ 5 < plZ m ∨ ∃ k : Nat, 1 ≤ k ∧ k ≤ 5 ∧ plZ m = (k : Int) ∧ (m = 2 ^ k ∨ (m ≠ 2 ^ k ∧ m ≠ 2 ∧ m ≠ 4 ∧ m ≠ 8 ∧ m ≠ 16 ∧ m ≠ 32)) := by
  rcases Nat.lt_or_ge m 64 with h | h
  · have h1 := plZ_small ⟨m, h⟩
    simp only at h1
    by_cases c0 : m = 0
    · rw [if_pos c0] at h1; exact .inl (by omega)
    rw [if_neg c0] at h1
    by_cases c1 : m = 1
    · rw [if_pos c1] at h1; exact .inl (by omega)
    rw [if_neg c1] at h1
    by_cases c2 : m < 4
    · rw [if_pos c2] at h1; exact .inr (.inr ⟨1, by omega, by omega, h1, by have : (2 : Nat) ^ 1 = 2 := rfl; omega⟩)
    rw [if_neg c2] at h1
    by_cases c3 : m < 8
    · rw [if_pos c3] at h1; exact .inr (.inr ⟨2, by omega, by omega, h1, by have : (2 : Nat) ^ 2 = 4 := rfl; omega⟩)
    rw [if_neg c3] at h1
    by_cases c4 : m < 16
    · rw [if_pos c4] at h1; exact .inr (.inr ⟨3, by omega, by omega, h1, by have : (2 : Nat) ^ 3 = 8 := rfl; omega⟩)
    rw [if_neg c4] at h1
    by_cases c5 : m < 32
    · rw [if_pos c5] at h1; exact .inr (.inr ⟨4, by omega, by omega, h1, by have : (2 : Nat) ^ 4 = 16 := rfl; omega⟩)
    rw [if_neg c5] at h1
    exact .inr (.inr ⟨5, by omega, by omega, h1, by have : (2 : Nat) ^ 5 = 32 := rfl; omega⟩)
  · exact .inr (.inl (plZ_big h h2).1)
theorem plZ_pow {k : Nat} (h1 : 1 ≤ k) (h5 : k ≤ 5) : plZ (2 ^ k) = (k : Int) := by
  rcases (show k = 1 ∨ k = 2 ∨ k = 3 ∨ k = 4 ∨ k = 5 by omega) with rfl | rfl | rfl | rfl | rfl <;> decide +kernel
theorem Pv.plZ {v : List Int} {n : Nat} (h : Pv v n) : plZ v.length = (n : Int) := by rw [h.len]; exact plZ_pow h.one h.five
/-- What is not for groups. -/
theorem fg_no {l : List Int} {m : Int} (h : ¬ (l.length = 2 ∨ l.length = 4 ∨ l.length = 8 ∨ l.length = 16 ∨ l.length = 32)) : fgB l m = false := by
  unfold fgB
  have : (decide (l.length = 2) || decide (l.length = 4) || decide (l.length = 8) || decide (l.length = 16) || decide (l.length = 32)) = false := by simp; omega
  rw [this]
  rfl
theorem fg_yes {l : List Int} {m : Int} {k : Nat} (h1 : 1 ≤ k) (h5 : k ≤ 5) (h : l.length = 2 ^ k) : fgB l m = ((nth l 0 == 0) && upB m l) := by
  unfold fgB
  have : (decide (l.length = 2) || decide (l.length = 4) || decide (l.length = 8) || decide (l.length = 16) || decide (l.length = 32)) = true := by
    rw [h]
    rcases (show k = 1 ∨ k = 2 ∨ k = 3 ∨ k = 4 ∨ k = 5 by omega) with rfl | rfl | rfl | rfl | rfl <;> decide
  rw [this, Bool.true_and]
theorem plZ_off {m k : Nat} (hk : plZ m < 1 ∨ 5 < plZ m) : ¬ (m = 2 ∨ m = 4 ∨ m = 8 ∨ m = 16 ∨ m = 32) := by
  intro h
  rcases h with rfl | rfl | rfl | rfl | rfl
  · have := plZ_pow (k := 1) (by omega) (by omega); simp at this; omega
  · have := plZ_pow (k := 2) (by omega) (by omega); simp at this; omega
  · have := plZ_pow (k := 3) (by omega) (by omega); simp at this; omega
  · have := plZ_pow (k := 4) (by omega) (by omega); simp at this; omega
  · have := plZ_pow (k := 5) (by omega) (by omega); simp at this; omega

theorem Len_any (m : Nat) (hm : m ≤ 9223372036854775807) (w : World) : Calls Try.prog 91 #[.int .u64 (m : Int)] w fun e w' => e = .returned (.int .i64 ((Lib.bitLen m : Nat) : Int)) ∧ w = w' :=
  (Go.Proofs.Any.bits_Len Try.lays125 (m : Int) w (by omega) (by omega)).mono fun e w' h => ⟨by rw [h.1]; rfl, h.2.symm⟩
set_option maxRecDepth 4000 in
theorem players_any (A : Option Addr) (m c : Nat) (hm : m ≤ 9223372036854775807) (w : World) :
    Calls Try.prog 51 #[.slice A m c] w fun e w' => e = .returned (.int .i64 (plZ m)) ∧ w = w' := by
  have HL := Lib.hid (Len_any m hm)
  have hle : Lib.bitLen m ≤ 64 := Lib.bitLen_le m 64 (Nat.le_refl _) (by omega)
  have HP := Lib.hid (show plZ m = ((Lib.bitLen m : Nat) : Int) - 1 from rfl)
  generalize Lib.bitLen m = b at *
  generalize plZ m = z at *
  have hcv : IntKind.u64.wrap (m : Int) = (m : Int) := by rw [IntKind.wrap_u64]; omega
  go_enter Try.func51, Try.ntmps51
  go_wp2_with fail
  refine (HL.out w).mono ?_
  rintro e w' ⟨rfl, rfl⟩
  go_wp2_with fail
  go_ret
  exact ⟨by rw [HP.out]; rfl, rfl⟩
theorem whole_any (A : Option Addr) (m c : Nat) (h1 : 1 ≤ m) (hm : m ≤ 9223372036854775807) (w : World) :
    Calls Try.prog 70 #[.slice A m c] w fun e w' => e = .returned (.int .i64 ((m - 1 : Nat) : Int)) ∧ w = w' := by
  have HX := Lib.hid (show ((m - 1 : Nat) : Int) = (m : Int) - 1 by omega)
  generalize m - 1 = k at *
  go_enter Try.func70, Try.ntmps70
  go_wp2_with fail
  go_ret
  exact ⟨by rw [HX.out] <;> rfl, rfl⟩
theorem alone_any (p : Nat) (hp : p < 40) (w : World) :
    Calls Try.prog 54 #[.int .i64 p] w fun e w' => e = .returned (.int .i64 ((2 ^ p : Nat) : Int)) ∧ w = w' := by
  have h5 := pow5 hp
  have hcast : ((2 ^ p : Nat) : Int) = (2 : Int) ^ p := by simp
  have HW := Lib.hid (show wrap64 ((2 : Int) ^ p) = ((2 ^ p : Nat) : Int) by rw [← hcast]; unfold wrap64; omega)
  have HC := Lib.hid hcast
  have e1 : decide ((p : Int) < 0) = false := decide_eq_false (by omega)
  clear hcast h5
  go_enter Try.func54, Try.ntmps54
  go_wp2_with fail
  go_ret
  exact ⟨by first | (rw [HW.out] <;> rfl) | rfl, rfl⟩
theorem isIn_any (p g : Nat) (hp : p < 40) (hg : g < 9223372036854775808) (w : World) :
    Calls Try.prog 71 #[.int .i64 p, .int .i64 g] w fun e w' => e = .returned (.bool (g.testBit p)) ∧ w = w' := by
  have HA := Lib.hid (alone_any p hp w)
  have HB := Lib.hid (isin_bit hp hg)
  generalize g.testBit p = x at *
  generalize (2 ^ p : Nat) = y at *
  go_enter Try.func71, Try.ntmps71
  go_wp2_with fail
  refine HA.out.mono ?_
  rintro e w' ⟨rfl, rfl⟩
  go_wp2_with fail
  go_ret
  exact ⟨by first | rfl | (rw [HB.out] <;> rfl), rfl⟩
theorem upTo1_any (d most : Int) (b : Nat) (hm : 0 ≤ most) (hm2 : most ≤ 1000000000000) (w : World) (hc : w.cell? ⟨b, 0, none⟩ = some (.int .i64 most)) :
    Calls Try.prog 108 #[.int .i64 d, .pointer (some ⟨b, 0, none⟩)] w fun e w' => e = .returned (.bool (!inUp most d)) ∧ Below w.heap.size w w' := by
  have HW := Lib.hid (show wrap64 (-most) = -most by unfold wrap64; omega)
  have hw : wrap64 (-most) = -most := HW.out
  by_cases h1 : d < -most
  · have e1 : decide (d < -most) = true := decide_eq_true h1
    have HX := Lib.hid (show (!inUp most d) = true by unfold inUp; rw [decide_eq_false (show ¬ -most ≤ d by omega)]; rfl)
    clear h1
    go_enter Try.func108, Try.ntmps108
    go_wp2_with fail
    go_ret
    exact ⟨by rw [HX.out] <;> rfl, Below.refl _ _⟩
  · have e1 : decide (d < -most) = false := decide_eq_false h1
    have HX := Lib.hid (show (!inUp most d) = decide (most < d) by
      unfold inUp
      rw [decide_eq_true (show -most ≤ d by omega), Bool.true_and]
      by_cases h2 : d ≤ most
      · rw [decide_eq_true h2, decide_eq_false (show ¬ most < d by omega)]; rfl
      · rw [decide_eq_false h2, decide_eq_true (show most < d by omega)]; rfl)
    clear h1
    go_enter Try.func108, Try.ntmps108
    go_wp2_with fail
    go_ret
    exact ⟨by rw [HX.out] <;> rfl, Below.refl _ _⟩
def idxF (p : Int → Bool) (L : List Int) : Int := match L.findIdx? p with
  | some i => (i : Int)
  | none => -1
theorem idx_hit {p : Int → Bool} {L : List Int} {k : Nat} {d : Int} (hd : L[k]? = some d) (h : p d = true) (ha : ∀ (j : Nat) e, j < k → L[j]? = some e → p e = false) : idxF p L = (k : Int) := by
  obtain ⟨hk, he⟩ := List.getElem?_eq_some_iff.1 hd
  have : L.findIdx? p = some k := by
    rw [List.findIdx?_eq_some_iff_getElem]
    refine ⟨hk, by rw [he]; exact h, fun j hj => ?_⟩
    have := ha j _ hj (List.getElem?_eq_getElem (by omega))
    rw [this]; decide
  unfold idxF
  rw [this]
theorem idx_none {p : Int → Bool} {L : List Int} (ha : ∀ (j : Nat) e, j < L.length → L[j]? = some e → p e = false) : idxF p L = -1 := by
  have : L.findIdx? p = none := by
    rw [List.findIdx?_eq_none_iff]
    intro x hx
    obtain ⟨j, hj, he⟩ := List.getElem_of_mem hx
    exact ha j x hj (by rw [← he]; exact List.getElem?_eq_getElem hj)
  unfold idxF
  rw [this]
theorem none_next {p : Int → Bool} {R : List Int} {k : Nat} {d : Int} (hk : R[k]? = some d) (h : p d = false) (ha : ∀ (j : Nat) e, j < k → R[j]? = some e → p e = false) : ∀ (j : Nat) e, j < k + 1 → R[j]? = some e → p e = false := fun j e hj he => by
  by_cases hjk : j = k
  · subst hjk
    obtain rfl := Option.some.inj (hk.symm.trans he)
    exact h
  · exact ha j e (by omega) he
set_option maxRecDepth 4000 in
set_option maxHeartbeats 800000 in
theorem IndexUp_any (A : Option Addr) (c : Nat) (L : List Int) (bs : Nat) (p : Int → Bool) (w : World) (hr : Rd w w.heap.size A (ints L)) (hl : L.length ≤ 9223372036854775807)
    (HC : ∀ w', Below w.heap.size w w' → ∀ d ∈ L, Calls Try.prog 108 #[.int .i64 d, .pointer (some ⟨bs, 0, none⟩)] w' fun e w'' => e = .returned (.bool (p d)) ∧ Below w'.heap.size w' w'') :
    Calls Try.prog 100 #[.slice A L.length c, .func (.func 108) #[] #[.pointer (some ⟨bs, 0, none⟩)]] w fun e w' => e = .returned (.int .i64 (idxF p L)) ∧ Below w.heap.size w w' := by
  have HR := Lib.hid hr
  have HCC := Lib.hid HC
  have HH := Lib.hid (fun k d hd h ha => idx_hit (p := p) (L := L) (k := k) (d := d) hd h ha)
  have HN := Lib.hid (fun ha => idx_none (p := p) (L := L) ha)
  clear hr HC
  go_enter Try.func100, Try.ntmps100
  go_wp2_with fail
  go_loopw [8] (fun i wr => ∃ k : Nat, k ≤ L.length ∧ i = .int .i64 k ∧ (∀ (j : Nat) e, j < k → L[j]? = some e → p e = false) ∧ Below w.heap.size w wr) (fun i _ => L.length - (intOf i).toNat)
  case atStart => exact ⟨0, by omega, rfl, fun j e hj => by omega, Below.refl _ _⟩
  case round =>
    obtain ⟨k, hk, rfl, hall, hb⟩ := hrel
    have HA := Lib.hid hall
    have BW := Lib.hid hb
    clear hall hb
    by_cases hlt : k < L.length
    · obtain ⟨b, o, d, rfl, hd, hc⟩ := (HR.out.below BW.out (Nat.le_refl _)).int k hlt
      have HQ := Lib.hid (HCC.out wr BW.out d (List.mem_of_getElem? hd.out))
      cases hp : p d
      · have HX := Lib.hid (none_next hd.out hp HA.out)
        rw [hp] at HQ
        clear hp
        go_wp2_with (go_at_call 108; refine HQ.out.mono ?_; rintro e w2 ⟨rfl, hb⟩; have B2 := Lib.hid (BW.out.trans (hb.mono BW.out.size)); clear hb)
        go_roundw
        case rel => exact ⟨k + 1, by omega, by go_num, HX.out, B2.out⟩
        case measure => simp [intOf]; omega
      · have HX := Lib.hid (HH.out k d hd.out hp HA.out)
        rw [hp] at HQ
        clear hp
        go_wp2_with (go_at_call 108; refine HQ.out.mono ?_; rintro e w2 ⟨rfl, hb⟩; have B2 := Lib.hid (BW.out.trans (hb.mono BW.out.size)); clear hb)
        go_ret
        exact ⟨by rw [HX.out]; rfl, B2.out⟩
    · have hks : k = L.length := by omega
      subst hks
      have HX := Lib.hid (HN.out HA.out)
      go_wp2_with fail
      go_ret
      exact ⟨by rw [HX.out]; rfl, BW.out⟩
theorem up_any_not {most : Int} {l : List Int} : decide (0 ≤ idxF (fun d => !inUp most d) l) = !upB most l := by
  unfold idxF
  split
  · rename_i i hi
    rw [List.findIdx?_eq_some_iff_getElem] at hi
    obtain ⟨hk, h1, _⟩ := hi
    rw [decide_eq_true (by omega)]
    cases hu : upB most l
    · rfl
    · have := List.all_eq_true.1 hu _ (List.getElem_mem hk)
      rw [this] at h1
      cases h1
  · rename_i hi
    rw [List.findIdx?_eq_none_iff] at hi
    rw [decide_eq_false (by omega)]
    have : upB most l = true := List.all_eq_true.2 fun x hx => by have := hi x hx; simpa using this
    rw [this]
    rfl
set_option maxRecDepth 4000 in
theorem areUpTo_any (A : Option Addr) (l : List Int) (c : Nat) (most : Int) (hm : 0 ≤ most) (hm2 : most ≤ 1000000000000) (hl : l.length ≤ 9223372036854775807) (w : World) (hr : Rd w w.heap.size A (ints l)) :
    Calls Try.prog 93 #[.slice A l.length c, .int .i64 most] w fun e w' => e = .returned (.bool (upB most l)) ∧ Below w.heap.size w w' := by
  obtain ⟨W, hW, hg, hs1, hb0⟩ := one_blk w #[.int .i64 most] 3
  have HW := Lib.hid hW
  have HB := Lib.hid hb0
  have HI := Lib.hid (IndexUp_any A c l w.heap.size (fun d => !inUp most d) W ((hr.below hb0 (Nat.le_refl _)).more (Nat.le_of_lt hs1)) hl fun w' hb d _ =>
    upTo1_any d most w.heap.size hm hm2 w' ((hb.cell (p := ⟨w.heap.size, 0, none⟩) hs1).trans (blk_cell hg)))
  have HU := Lib.hid (up_any_not (most := most) (l := l))
  generalize idxF (fun d => !inUp most d) l = d at *
  generalize upB most l = x at *
  generalize l.length = m at *
  have HC := Lib.hid (show Calls Try.prog 107 #[.slice A m c, .func (.func 108) #[] #[.pointer (some ⟨w.heap.size, 0, none⟩)]] W fun e w' => e = .returned (.bool (!x)) ∧ Below W.heap.size W w' from by
    clear HW HB hW hb0 hr hg
    go_enter Try.func107, Try.ntmps107
    go_wp2_with fail
    refine HI.out.mono ?_
    rintro e w2 ⟨rfl, hb⟩
    have HB := Lib.hid hb
    clear hb
    go_wp2_with fail
    go_ret
    exact ⟨by rw [← HU.out] <;> rfl, HB.out⟩)
  clear hW hb0 hr hg HI
  go_enter Try.func93, Try.ntmps93
  go_wp2_with fail
  rw [HW.out]
  refine HC.out.mono ?_
  rintro e w2 ⟨rfl, hb⟩
  have HB2 := Lib.hid (HB.out.trans (hb.mono HB.out.size))
  clear hb
  cases x
  · go_wp2_with fail
    go_ret
    exact ⟨rfl, HB2.out⟩
  · go_wp2_with fail
    go_ret
    exact ⟨rfl, HB2.out⟩
set_option maxRecDepth 4000 in
set_option maxHeartbeats 800000 in
theorem areForGroups_any (A : Option Addr) (l : List Int) (c : Nat) (most : Int) (hm : 0 ≤ most) (hm2 : most ≤ 1000000000000) (hl : l.length ≤ 9223372036854775807) (w : World) (hr : Rd w w.heap.size A (ints l)) :
    Calls Try.prog 57 #[.slice A l.length c, .int .i64 most] w fun e w' => e = .returned (.bool (fgB l most)) ∧ Below w.heap.size w w' := by
  have HP := Lib.hid (players_any A l.length c hl w)
  have HA := Lib.hid (areUpTo_any A l c most hm hm2 hl w hr)
  have HR := Lib.hid hr
  obtain ⟨m, hmm⟩ : ∃ m, l.length = m := ⟨_, rfl⟩
  have HM := Lib.hid hmm
  rcases plZ_cases hl with h | h | ⟨k, h1, h5, h, hp⟩
  · have HX := Lib.hid (fg_no (m := most) (plZ_off (k := 0) (.inl h)))
    have e1 : decide (plZ l.length < 1) = true := decide_eq_true h
    rw [hmm] at HP HA e1 ⊢
    generalize plZ m = z at *
    clear h hr hmm hl
    go_enter Try.func57, Try.ntmps57
    go_wp2_with fail
    refine HP.out.mono ?_
    rintro e w' ⟨rfl, rfl⟩
    go_wp2_with fail
    go_ret
    exact ⟨by rw [HX.out] <;> rfl, Below.refl _ _⟩
  · have HX := Lib.hid (fg_no (m := most) (plZ_off (k := 0) (.inr h)))
    have e1 : decide (plZ l.length < 1) = false := decide_eq_false (by omega)
    have e2 : decide (5 < plZ l.length) = true := decide_eq_true h
    rw [hmm] at HP HA e1 e2 ⊢
    generalize plZ m = z at *
    clear h hr hmm hl
    go_enter Try.func57, Try.ntmps57
    go_wp2_with fail
    refine HP.out.mono ?_
    rintro e w' ⟨rfl, rfl⟩
    go_wp2_with fail
    go_ret
    exact ⟨by rw [HX.out] <;> rfl, Below.refl _ _⟩
  · have e1 : decide ((k : Int) < 1) = false := decide_eq_false (by omega)
    have e1' : decide (k < 1) = false := decide_eq_false (by omega)
    have e2 : decide ((5 : Int) < (k : Int)) = false := decide_eq_false (by omega)
    have e2' : decide (5 < k) = false := decide_eq_false (by omega)
    have e0 : decide ((k : Int) < 0) = false := decide_eq_false (by omega)
    have h6 := pow5 (p := k) (by omega)
    have hcast : ((2 ^ k : Nat) : Int) = (2 : Int) ^ k := by simp
    have hwr : wrap64 ((2 : Int) ^ k) = ((2 ^ k : Nat) : Int) := by rw [← hcast]; unfold wrap64; omega
    have hwr' : IntKind.i64.wrap ((2 : Int) ^ k) = ((2 ^ k : Nat) : Int) := by rw [← hcast, IntKind.wrap_i64]; omega
    have HC := Lib.hid hcast
    rcases hp with hp | ⟨hp, hp2⟩
    · have HF := Lib.hid (fg_yes (m := most) h1 h5 hp)
      have e3 : ((m : Int) != ((2 ^ k : Nat) : Int)) = false := by rw [← hmm, hp]; simp
      have e3' : (m != (2 ^ k : Nat)) = false := by rw [← hmm, hp]; simp
      have hlt : 0 < l.length := by omega
      obtain ⟨b, o, d, rfl, hd, hc⟩ := hr.int 0 hlt
      rw [Nat.add_zero] at hc
      have HD := Lib.hid (nth_get hd.out)
      rw [HD.out] at HF
      rw [h] at HP
      have b0 : (0 : Int) < (m : Int) := by omega
      have b0' : 0 < m := by omega
      rw [hmm] at HP HA ⊢
      generalize fgB l most = F at *
      generalize upB most l = U at *
      generalize (2 ^ k : Nat) = y at *
      clear hr hmm hl hp hd h hcast h6 hlt
      cases hd0 : (d == 0)
      · rw [hd0] at HF
        go_enter Try.func57, Try.ntmps57
        go_wp2_with fail
        refine HP.out.mono ?_
        rintro e w' ⟨rfl, rfl⟩
        go_wp2_with fail
        go_ret
        exact ⟨by rw [HF.out] <;> rfl, Below.refl _ _⟩
      · rw [hd0] at HF
        go_enter Try.func57, Try.ntmps57
        go_wp2_with fail
        refine HP.out.mono ?_
        rintro e w' ⟨rfl, rfl⟩
        go_wp2_with fail
        refine HA.out.mono ?_
        rintro e w' ⟨rfl, hb⟩
        have HB := Lib.hid hb
        clear hb
        go_wp2_with fail
        go_ret
        exact ⟨by rw [HF.out] <;> rfl, HB.out⟩
    · have HX := Lib.hid (fg_no (l := l) (m := most) (by omega))
      have e3 : ((m : Int) != ((2 ^ k : Nat) : Int)) = true := by rw [bne_iff_ne, ← hmm]; omega
      have e3' : (m != (2 ^ k : Nat)) = true := by rw [bne_iff_ne, ← hmm]; omega
      rw [h] at HP
      rw [hmm] at HP HA ⊢
      generalize (2 ^ k : Nat) = y at *
      clear hr hmm hl hp hp2 h hcast h6
      go_enter Try.func57, Try.ntmps57
      go_wp2_with fail
      refine HP.out.mono ?_
      rintro e w' ⟨rfl, rfl⟩
      go_wp2_with fail
      go_ret
      exact ⟨by rw [HX.out] <;> rfl, Below.refl _ _⟩
theorem Validate_any (A : Option Addr) (l : List Int) (c : Nat) (hl : l.length ≤ 9223372036854775807) (w : World) (hr : Rd w w.heap.size A (ints l)) :
    Calls Try.prog 21 #[.slice A l.length c] w fun e w' => e = .returned (.int .i64 (vdE l)) ∧ Below w.heap.size w w' := by
  have HF := Lib.hid (areForGroups_any A l c 1000 (by omega) (by omega) hl w hr)
  have HX := Lib.hid (show vdE l = if fgB l 1000 = true then 0 else 1 from rfl)
  generalize vdE l = E at *
  generalize fgB l 1000 = F at *
  generalize l.length = m at *
  clear hr
  cases F
  · go_enter Try.func21, Try.ntmps21
    go_wp2_with fail
    refine HF.out.mono ?_
    rintro e w' ⟨rfl, hb⟩
    have HB := Lib.hid hb
    clear hb
    go_wp2_with fail
    go_ret
    exact ⟨by rw [HX.out] <;> rfl, HB.out⟩
  · go_enter Try.func21, Try.ntmps21
    go_wp2_with fail
    refine HF.out.mono ?_
    rintro e w' ⟨rfl, hb⟩
    have HB := Lib.hid hb
    clear hb
    go_wp2_with fail
    go_ret
    exact ⟨by rw [HX.out] <;> rfl, HB.out⟩
end Go.Proofs.Ytfmhanpibgmgfaa

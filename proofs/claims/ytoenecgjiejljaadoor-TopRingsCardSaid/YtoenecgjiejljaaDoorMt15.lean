/-
  Texts merged into one (Rc4, Rc5): contracts of the functions of package lure, what is reckoned of games. Conditions: as each says.
-/
import Derived.Test.YtoenecgjiejljaaDoorMt14
import Derived.Test.YtoenecgjiejljaaDoorMt11
import Derived.Test.YtoenecgjiejljaaDoorMt2
import Derived.Deep.RegionWith
import Derived.IntWalk
namespace Go.Proofs.YtoenecgjiejljaaDoor
open Go.RowKit
set_option linter.unusedVariables false

def wnI (b : Int) : Int := if b = 63 then -1 else b - 48
def wlK (s : ByteArray) (k : Nat) : List Int := (List.range k).map fun i => wnI (bAt s (s.size - 6 + i))
/-- The digits of a worn ring. -/
def wL (s : ByteArray) : List Int := wlK s 6
theorem wlK_length (s : ByteArray) (k : Nat) : (wlK s k).length = k := by simp [wlK]
theorem wlK_succ (s : ByteArray) (k : Nat) : wlK s (k + 1) = wlK s k ++ [wnI (bAt s (s.size - 6 + k))] := by simp [wlK, List.range_succ]
theorem wl_dig {s : ByteArray} (h : formB s true = true) : WDig (wL s) := by
  intro x hx
  obtain ⟨i, hi, rfl⟩ := List.mem_map.1 hx
  have hi := List.mem_range.1 hi
  have hs := form_size h
  have := form_at h (i := s.size - 6 + i) (by omega)
  unfold okAt at this
  rw [if_neg (by omega)] at this
  unfold wnI
  by_cases h63 : bAt s (s.size - 6 + i) = 63
  · rw [if_pos h63]; exact .inl rfl
  · rw [if_neg h63]
    refine .inr ?_
    simp only [h63, Bool.true_and, decide_false, Bool.or_false] at this
    rw [isNum_iff] at this
    exact ⟨by omega, by omega⟩
set_option maxHeartbeats 1000000 in
theorem wornDigits_own (s : ByteArray) (w : World) (h6 : 6 ≤ s.size) (hsz : s.size ≤ 1000) :
    Calls Tryd.prog 74 #[.string s] w fun e w' => ∃ A c, e = .returned (.slice A 6 c) ∧ w'.ownsRow w.heap.size 3 1 (.slice A 6 c) 6 (ints (wL s)) ∧ Below w.heap.size w w' := by
  obtain ⟨z, hz⟩ : ∃ z, s.size = z + 6 := ⟨s.size - 6, by omega⟩
  have HZ := Lib.hid hz
  have e1 : ((s.size : Int) - 6) = (z : Int) := by omega
  clear hz
  go_enter Tryd.func74, Tryd.ntmps74
  go_wp2
  go_loopw [3, 4] (fun v i wr => ∃ (k : Nat) (A : Option Addr) (c : Nat), k ≤ 6 ∧ i = .int .i64 ((z : Int) + k) ∧ v = .slice A k c ∧ wr.ownsRow w.heap.size 3 1 v k (ints (wlK s k)) ∧ Below w.heap.size w wr) (fun _ i _ => (s.size - intOf i).toNat)
  case atStart => exact ⟨0, none, 0, by omega, by simp, rfl, World.ownsRow_nil _ _ _ _, Below.refl _ _⟩
  case round =>
    obtain ⟨k, A, c, hk, rfl, rfl, hown, hb⟩ := hrel
    have O := Lib.hid hown
    have BB := Lib.hid hb
    clear hown hb
    by_cases hlt : k < 6
    · have hp : z + k < s.size := by have := HZ.out; omega
      have hb1 := bAt_get s (z + k) hp
      have hr := bAt_range s (z + k)
      rw [hb1] at hr
      have D := Lib.hid hb1
      obtain ⟨r0, r1⟩ := hr
      clear hb1
      by_cases h63 : (((s[z + k]'hp).toNat : Nat) : Int) = 63
      · have HN := Lib.hid (show wnI (bAt s (z + k)) = -1 by rw [D.out, h63]; rfl)
        rw [h63] at r0 r1
        have q1 : ((((s[z + k]'hp).toNat : Nat) : Int) == 63) = true := by simpa using h63
        have q2 : ((s[z + k]'hp).toNat == 63) = true := by rw [beq_iff_eq]; omega
        go_wp2_with (at_builtin; refine app eInt' rfl _ _ rfl rfl (O.out.alloc _) (BB.out.alloc BB.out.size _) (size_alloc' BB.out.size _) rfl (Rd.one wr (.int .i64 (-1)) 3 (Nat.lt_succ_self _)) (by simp) (ints_one [-1]) (k + 1) rfl (by omega) ?_; intro A4 c4 w4 o4 b4 g4 _; have O4 := Lib.hid o4; have B4 := Lib.hid b4; clear o4 b4 g4)
        go_roundw
        case rel => exact ⟨k + 1, A4, c4, by omega, by go_num, rfl, by rw [wlK_succ, ints_append, HZ.out, Nat.add_sub_cancel, HN.out]; exact O4.out, B4.out⟩
        case measure => have := HZ.out; simp [intOf]; omega
      · have q1 : ((((s[z + k]'hp).toNat : Nat) : Int) == 63) = false := by simpa using h63
        have q2 : ((s[z + k]'hp).toNat == 63) = false := by rw [beq_eq_false_iff_ne]; omega
        have HN := Lib.hid (show wnI (bAt s (z + k)) = (((s[z + k]'hp).toNat : Nat) : Int) - 48 by rw [D.out]; exact if_neg h63)
        clear h63
        generalize hd : (((s[z + k]'hp).toNat : Nat) : Int) = d at *
        go_wp2_with (at_builtin; refine app eInt' rfl _ _ rfl rfl (O.out.alloc _) (BB.out.alloc BB.out.size _) (size_alloc' BB.out.size _) rfl (Rd.one wr (.int .i64 (d - 48)) 3 (Nat.lt_succ_self _)) (by simp) (ints_one [d - 48]) (k + 1) rfl (by omega) ?_; intro A4 c4 w4 o4 b4 g4 _; have O4 := Lib.hid o4; have B4 := Lib.hid b4; clear o4 b4 g4)
        go_roundw
        case rel => exact ⟨k + 1, A4, c4, by omega, by go_num, rfl, by rw [wlK_succ, ints_append, HZ.out, Nat.add_sub_cancel, HN.out]; exact O4.out, B4.out⟩
        case measure => have := HZ.out; simp [intOf]; omega
    · have hk6 : k = 6 := by omega
      subst hk6
      have hnp : ¬ ((z : Int) + 6 < (s.size : Int)) := by have := HZ.out; omega
      go_wp2
      go_ret
      exact ⟨A, c, rfl, O.out, BB.out⟩
theorem wornDigits_any (s : ByteArray) (w : World) (h6 : 6 ≤ s.size) (hsz : s.size ≤ 1000) :
    Calls Tryd.prog 74 #[.string s] w (MadeInts w (wL s)) := by
  refine (wornDigits_own s w h6 hsz).mono ?_
  rintro e w' ⟨A, c, rfl, ho, hb⟩
  exact ⟨A, c, by rw [wL, wlK_length], Rd.of_own ho, hb⟩
end Go.Proofs.YtoenecgjiejljaaDoor
namespace Go.Proofs.YtoenecgjiejljaaDoor
open Go.RowKit
set_option linter.unusedVariables false

def wvF (l : List Int) (t : Nat) : Int := ((wyL l (t : Int) : Nat) : Int)
def zF (_ : Nat) : Int := 0
theorem size_ten (f : Nat → Value) : (Tryd.prog.info? 82).map (·.size) = some (rowV f 10).size := by rw [rowV_size]; kernel_rfl
theorem one_ten (w : World) : ∃ W, w.alloc (.cells #[.int .i64 0, .int .i64 0, .int .i64 0, .int .i64 0, .int .i64 0, .int .i64 0, .int .i64 0, .int .i64 0, .int .i64 0, .int .i64 0] 82) = W ∧ W.heap[w.heap.size]? = some (.cells (rowV (moV zF) 10) 82 (0, 0)) ∧ w.heap.size < W.heap.size ∧ Below w.heap.size w W :=
  one_blk w (rowV (moV zF) 10) 82
theorem one_first (w : World) : ∃ W, w.alloc (.cells #[.int .i64 1, .int .i64 0, .int .i64 0, .int .i64 0, .int .i64 0, .int .i64 0, .int .i64 0, .int .i64 0, .int .i64 0, .int .i64 0] 82) = W ∧ W.heap[w.heap.size]? = some (.cells (rowV (moV (wvF [])) 10) 82 (0, 0)) ∧ w.heap.size < W.heap.size ∧ Below w.heap.size w W := by
  have e : (rowV (moV (wvF [])) 10) = #[.int .i64 1, .int .i64 0, .int .i64 0, .int .i64 0, .int .i64 0, .int .i64 0, .int .i64 0, .int .i64 0, .int .i64 0, .int .i64 0] := rfl
  rw [e]
  exact one_blk w _ 82
set_option maxRecDepth 8000 in
set_option maxHeartbeats 4000000 in
theorem counted_any (A : Option Addr) (c : Nat) (l : List Int) (w : World) (hr : Rd w w.heap.size A (ints l)) (hw : WDig l) (hl : l.length = 6) :
    Calls Tryd.prog 73 #[.slice A 6 c] w fun e w' => e = .returned (.agg (rowV (moV (wvF l)) 10)) ∧ Below w.heap.size w w' := by
  obtain ⟨W1, hW1, hblk1, hs1, hb1⟩ := one_ten w
  obtain ⟨W2, hW2, hblk2, hs2, hb2⟩ := one_first W1
  have R1 := Lib.hid ((hb2.block _ hs1).trans hblk1)
  have B2 := Lib.hid (hb1.trans (hb2.mono hb1.size))
  have K2 := Lib.hid hblk2
  have HS1 := Lib.hid hs1
  have HS2 := Lib.hid hs2
  have HR := Lib.hid hr
  have HWD := Lib.hid hw
  have HL := Lib.hid hl
  have H1 := Lib.hid hW1
  have H2 := Lib.hid hW2
  have HN6 := Lib.hid (show l.drop 6 = [] from List.drop_of_length_le (by omega))
  clear hr hw hl hblk1 hs1 hb1 hblk2 hs2 hb2 hW1 hW2
  go_enter Tryd.func73, Tryd.ntmps73
  go_wp2_with fail
  rw [H1.out]
  go_wp2_with fail
  rw [H2.out]
  have hz1 : W1.heap.size = w.heap.size + 1 := by rw [← H1.out]; simp
  have HZ := Lib.hid hz1
  clear hz1
  go_loopw [4] (fun i wr => ∃ p : Nat, p ≤ 6 ∧ i = .int .i64 ((p : Int) - 1) ∧ wr.heap[w.heap.size]? = some (.cells (rowV (moV zF) 10) 82 (0, 0)) ∧ wr.heap[w.heap.size + 1]? = some (.cells (rowV (moV (wvF (l.drop p))) 10) 82 (0, 0)) ∧ Below w.heap.size w wr) (fun i _ => (intOf i + 1).toNat)
  case atStart => exact ⟨6, by omega, rfl, R1.out, by rw [HN6.out, ← HZ.out]; exact K2.out, B2.out⟩
  case round =>
    obtain ⟨p, hp, rfl, hr0, hk0, hb0⟩ := hrel
    have RZ := Lib.hid hr0
    have KW := Lib.hid hk0
    have BW := Lib.hid hb0
    have gl0 := lt_of_block hr0
    have gl1 := lt_of_block hk0
    clear hr0 hk0 hb0
    cases p with
    | zero =>
      have en : (((0 : Nat) : Int) - 1) = -1 := by omega
      rw [en]
      rw [List.drop_zero] at KW
      clear gl0 gl1 en
      go_wp2_with (first | ((with_reducible show wpList _ _ _ (⟨some 48, _, _, _, _, _⟩ :: _) _ _); refine wpList_load_row rfl 82 (.tmp 3) rfl (w.heap.size + 1) rfl _ _ _ _ KW.out Tryd.underlying82 rfl (size_ten _) ?_) | (refine wpList_store_row rfl 82 (.tmp 2) (.tmp 48) rfl w.heap.size _ rfl rfl _ _ RZ.out (size_ten _) (by rw [rowV_size, rowV_size]) (by simp [rowV, moV, Value.oneCell']) ?_))
      (try simp only [Exit.inBlock, Exit.then])
      refine bodyPost_ret (v := .agg (rowV (moV (wvF l)) 10)) (results_cell_row rfl _ _ w.heap.size 82 _ _ _ rfl (setRow_heap _ _ _ _ _ _ RZ.out) Tryd.underlying82 rfl (size_ten _)) rfl ⟨rfl, below_setRow BW.out (Nat.le_refl _) _⟩
    | succ q =>
      have en : (((q + 1 : Nat) : Int) - 1) = (q : Int) := by omega
      rw [en]
      have q0 : (0 : Int) ≤ (q : Int) := by omega
      have q6 : (q : Int) < 6 := by omega
      have hq : q < l.length := by rw [HL.out]; omega
      obtain ⟨x, hx⟩ : ∃ x, l[q]? = some x := ⟨_, List.getElem?_eq_getElem hq⟩
      have hdrop : l.drop q = x :: l.drop (q + 1) := by
        rw [List.drop_eq_getElem_cons hq]
        rw [List.getElem?_eq_getElem hq] at hx
        injection hx with hx
        rw [hx]
      have hwx : WDig (x :: l.drop (q + 1)) := by rw [← hdrop]; exact fun y hy => HWD.out y (List.mem_of_mem_drop hy)
      have hlen : (l.drop (q + 1)).length = 5 - q := by rw [List.length_drop, HL.out]; omega
      obtain ⟨b, o, d0, hA, hd0, hc0⟩ := HR.out.int q hq
      obtain rfl : d0 = x := by have := hd0.out; rw [hx] at this; exact (Option.some.inj this).symm
      have HC0 := Lib.hid (fun (w' : World) (hb : Below w.heap.size w w') => (show w'.cell? ⟨b, o + q, none⟩ = some (.int .i64 d0) from by
        have := HR.out.below hb (Nat.le_refl _)
        obtain ⟨b', o', d', hA', hd', hc'⟩ := this.int q hq
        rw [hA] at hA'
        injection hA' with hA'
        injection hA' with e1 e2
        subst e1 e2
        have e3 := hd'.out
        rw [hx] at e3
        obtain rfl := Option.some.inj e3
        exact hc'))
      have HG := Lib.hid (show ∀ s, s < 10 → wvF (l.drop (q + 1)) s = (wyL (l.drop (q + 1)) (s : Int) : Nat) from fun s _ => rfl)
      have HLe := Lib.hid (fun s d t (hs : s < 10) (hd : d ≤ 10) (ht : t < 10) => nxF_le hwx (by omega) HG.out (s := s) (d := d) (t := t) hs hd ht)
      have HDone := Lib.hid (fun t => round_done (x := d0) HG.out t)
      rw [hlen] at HLe HDone
      have HWy := Lib.hid (fun t (ht : t < 10) => wy_le (l := l.drop (q + 1)) (fun y hy => hwx y (List.mem_cons_of_mem _ hy)) (by omega) ht)
      have HDr := Lib.hid hdrop
      obtain ⟨W3, hW3, hblk3, hs3, hb3⟩ := one_ten wr
      have H3 := Lib.hid hW3
      have N0 := Lib.hid hblk3
      have B3 := Lib.hid (BW.out.trans (hb3.mono BW.out.size))
      have RZ3 := Lib.hid ((hb3.block _ gl0).trans RZ.out)
      have KW3 := Lib.hid ((hb3.block _ gl1).trans KW.out)
      obtain ⟨nb, hnb⟩ : ∃ nb, wr.heap.size = nb := ⟨_, rfl⟩
      have HNB := Lib.hid (show w.heap.size + 1 < nb by rw [← hnb]; exact gl1)
      rw [hnb] at N0
      have HX := Lib.hid hx
      have HWX := Lib.hid hwx
      subst hA
      clear hx hwx hdrop hlen hd0 hc0 hW3 hblk3 hs3 hb3 hq
      generalize wvF (l.drop (q + 1)) = g at *
      go_wp2_with fail
      rw [H3.out]
      clear H3 hnb gl0 gl1 RZ KW BW
      obtain ⟨k, hk⟩ : ∃ k, 5 - q = k := ⟨_, rfl⟩
      rw [hk] at HLe HDone
      have HK := Lib.hid hk
      clear hk
      go_loopw [6] (fun i wr => ∃ s : Nat, s ≤ 10 ∧ i = .int .i64 s ∧ wr.heap[w.heap.size]? = some (.cells (rowV (moV zF) 10) 82 (0, 0)) ∧ wr.heap[w.heap.size + 1]? = some (.cells (rowV (moV g) 10) 82 (0, 0)) ∧ wr.heap[nb]? = some (.cells (rowV (moV (nxF d0 k g s 0)) 10) 82 (0, 0)) ∧ Below w.heap.size w wr) (fun i _ => 10 - (intOf i).toNat)
      case atStart => exact ⟨0, by omega, rfl, RZ3.out, KW3.out, N0.out, B3.out⟩
      case round =>
        obtain ⟨s, hs, rfl, hr0, hk0, hn0, hb0⟩ := hrel
        have RZ := Lib.hid hr0
        have KW := Lib.hid hk0
        have NX := Lib.hid hn0
        have BW := Lib.hid hb0
        clear hr0 hk0 hn0 hb0
        by_cases hs10 : s < 10
        · have es : (s : Int) < 10 := by omega
          obtain ⟨wo, hwo⟩ : ∃ wo : World, wo = wr := ⟨_, rfl⟩
          rw [← hwo] at RZ KW NX BW ⊢
          clear hwo
          go_wp2_with fail
          go_loopw [7] (fun i wr => ∃ d : Nat, d ≤ 10 ∧ i = .int .i64 d ∧ wr.heap[w.heap.size]? = some (.cells (rowV (moV zF) 10) 82 (0, 0)) ∧ wr.heap[w.heap.size + 1]? = some (.cells (rowV (moV g) 10) 82 (0, 0)) ∧ wr.heap[nb]? = some (.cells (rowV (moV (nxF d0 k g s d)) 10) 82 (0, 0)) ∧ Below w.heap.size w wr) (fun i _ => 10 - (intOf i).toNat)
          case atStart => exact ⟨0, by omega, rfl, RZ.out, KW.out, NX.out, BW.out⟩
          case round =>
            obtain ⟨d, hd, rfl, hr0, hk0, hn0, hb0⟩ := hrel
            have RZ2 := Lib.hid hr0
            have KW2 := Lib.hid hk0
            have NX2 := Lib.hid hn0
            have BW2 := Lib.hid hb0
            have cx := HC0.out wr hb0
            clear hr0 hk0 hn0 hb0
            by_cases hd10 : d < 10
            · have ed : (d : Int) < 10 := by omega
              by_cases hc : d0 = (d : Int) ∨ d0 < 0
              · have hdd : Dig (d : Int) := ⟨by omega, by omega⟩
                obtain ⟨y, hy, hye⟩ := (dig_turn hdd k).nat
                have hsd : Dig (s : Int) := ⟨by omega, by omega⟩
                obtain ⟨P, hP, hPe⟩ := (dig_mul hsd (dig_turn hdd k)).nat
                have HT := Lib.hid (fun w => rturned_nat (d : Int) (y : Int) (5 - (q : Int)) k w hdd (by have := HK.out; omega) (by have := HK.out; omega) hye)
                have HM := Lib.hid (fun w => rtimes_ok (s : Int) (y : Int) w hsd ⟨by omega, by omega⟩)
                rw [show mulD (s : Int) (y : Int) = (P : Int) by rw [← hye]; exact hPe] at HM
                have HS := Lib.hid (moV_set (g := nxF d0 k g s d) (g2 := nxF d0 k g s (d + 1)) (N := 10) (k := P) (v := nxF d0 k g s d P + g s) fun t ht => nxF_yes hc hPe t)
                obtain ⟨v0, v1⟩ := HLe.out s d P hs10 (by omega) hP
                have v3 : 0 ≤ g s ∧ g s ≤ 1000000 := by
                  rw [HG.out s hs10]
                  have := HWy.out s hs10
                  omega
                obtain ⟨v3, v4⟩ := v3
                have cN : wr.cell? ⟨nb, P, none⟩ = some (.int .i64 (nxF d0 k g s d P)) := by rw [blk_cell NX2.out, rowV_at hP]; rfl
                have cG : wr.cell? ⟨w.heap.size + 1, s, none⟩ = some (.int .i64 (g s)) := by rw [blk_cell KW2.out, rowV_at hs10]; rfl
                have hfree := blk_free NX2.out P
                obtain ⟨u, hu⟩ : ∃ u, nxF d0 k g s d P = u := ⟨_, rfl⟩
                obtain ⟨z, hz⟩ : ∃ z, g s = z := ⟨_, rfl⟩
                rw [hu] at cN v0 v1 HS
                rw [hz] at cG v3 v4 HS
                have hwr : IntKind.i64.wrap (u + z) = u + z := by rw [IntKind.wrap_i64]; omega
                have hwr2 : IntKind.i64.wrap (5 - (q : Int)) = 5 - (q : Int) := by rw [IntKind.wrap_i64]; omega
                have P0 : (0 : Int) ≤ (P : Int) := by omega
                have P9 : (P : Int) < 10 := by omega
                have s0 : (0 : Int) ≤ (s : Int) := by omega
                have HNe := Lib.hid (show w.heap.size ≠ nb ∧ w.heap.size + 1 ≠ nb ∧ w.heap.size ≤ nb by have := HNB.out; omega)
                clear hye hPe hdd hsd hu hz hP hy
                by_cases hc0 : d0 = (d : Int)
                · have ec : (d0 == (d : Int)) = true := by rw [hc0]; simp
                  clear hc hc0
                  go_wp2_with fail
                  go_region_with (first
                    | (go_at_call 109; refine (HT.out _).mono ?_; rintro e w3 ⟨rfl, rfl⟩)
                    | (go_at_call 108; refine (HM.out _).mono ?_; rintro e w4 ⟨rfl, rfl⟩))
                  all_goals (
                    go_wp2_with fail
                    go_roundw
                    case rel => exact ⟨d + 1, by omega, by go_num, (heap_setCell_other _ _ _ _ HNe.out.1).trans RZ2.out, (heap_setCell_other _ _ _ _ HNe.out.2.1).trans KW2.out, (blk_set NX2.out P _).trans (by rw [HS.out]), (Below.setCell BW2.out HNe.out.2.2 _).drew⟩
                    case measure => simp [intOf]; omega)
                · have ec : (d0 == (d : Int)) = false := by simpa using hc0
                  have ec2 : decide (d0 < 0) = true := decide_eq_true (by rcases hc with h | h; exact absurd h hc0; exact h)
                  clear hc hc0
                  go_wp2_with fail
                  go_region_with (first
                    | (go_at_call 109; refine (HT.out _).mono ?_; rintro e w3 ⟨rfl, rfl⟩)
                    | (go_at_call 108; refine (HM.out _).mono ?_; rintro e w4 ⟨rfl, rfl⟩))
                  all_goals (
                    go_wp2_with fail
                    go_roundw
                    case rel => exact ⟨d + 1, by omega, by go_num, (heap_setCell_other _ _ _ _ HNe.out.1).trans RZ2.out, (heap_setCell_other _ _ _ _ HNe.out.2.1).trans KW2.out, (blk_set NX2.out P _).trans (by rw [HS.out]), (Below.setCell BW2.out HNe.out.2.2 _).drew⟩
                    case measure => simp [intOf]; omega)
              · have HS := Lib.hid (moV_congr (g := nxF d0 k g s d) (g2 := nxF d0 k g s (d + 1)) (N := 10) fun t ht => nxF_no hc t)
                have ec : (d0 == (d : Int)) = false := by simpa using fun e => hc (.inl e)
                have ec2 : decide (d0 < 0) = false := decide_eq_false fun e => hc (.inr e)
                clear hc
                go_wp2_with fail
                go_roundw
                case rel => exact ⟨d + 1, by omega, by go_num, RZ2.out, KW2.out, by rw [← HS.out]; exact NX2.out, BW2.out⟩
                case measure => simp [intOf]; omega
            · obtain rfl : d = 10 := by omega
              have HS := Lib.hid (moV_congr (g := nxF d0 k g s 10) (g2 := nxF d0 k g (s + 1) 0) (N := 10) fun t ht => nxF_row d0 k g s t)
              clear cx
              go_wp2_with fail
              go_roundw
              case rel => exact ⟨s + 1, by omega, by go_num, RZ2.out, KW2.out, by rw [← HS.out]; exact NX2.out, BW2.out⟩
              case measure => simp [intOf]; omega
        · obtain rfl : s = 10 := by omega
          have HS := Lib.hid (moV_congr (g := nxF d0 k g 10 0) (g2 := wvF (l.drop q)) (N := 10) fun t ht => by
            rw [HDone.out t, HDr.out]; rfl)
          have HNe := Lib.hid (show w.heap.size ≠ nb ∧ w.heap.size + 1 ≠ nb ∧ w.heap.size ≠ w.heap.size + 1 ∧ w.heap.size ≤ w.heap.size + 1 by have := HNB.out; omega)
          have q5 : (q : Int) - 1 ≤ 5 := by omega
          go_wp2_with (first | ((with_reducible show wpList _ _ _ (⟨some 47, _, _, _, _, _⟩ :: _) _ _); refine wpList_load_row rfl 82 (.tmp 5) rfl nb rfl _ _ _ _ NX.out Tryd.underlying82 rfl (size_ten _) ?_) | (refine wpList_store_row rfl 82 (.tmp 3) (.tmp 47) rfl (w.heap.size + 1) _ rfl rfl _ _ KW.out (size_ten _) (by rw [rowV_size, rowV_size]) (by simp [rowV, moV, Value.oneCell']) ?_))
          go_roundw
          case rel => exact ⟨q, by omega, rfl, (setRow_other _ _ _ _ HNe.out.2.2.1).trans RZ.out, by rw [← HS.out]; exact setRow_heap _ _ _ _ _ _ KW.out, below_setRow BW.out HNe.out.2.2.2 _⟩
          case measure => simp [intOf]
end Go.Proofs.YtoenecgjiejljaaDoor

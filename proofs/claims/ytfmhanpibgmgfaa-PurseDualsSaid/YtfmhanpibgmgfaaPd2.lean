/-
  Dividends of the program: the walks of slices.Clone, addParts, Dividends, FromDividends. Conditions: the lists can be read.
-/
import Derived.Test.YtfmhanpibgmgfaaPd1
import Derived.Test.YtfmhanpibgmgfaaPa1
import Derived.Test.YtfmhanpibgmgfaaPuf
import Derived.Lib.SliceRun
namespace Go.Proofs.Ytfmhanpibgmgfaa
open Go.RowKit
set_option linter.unusedVariables false

theorem i64_xor_nat (a b : Nat) (ha : a < 9223372036854775808) (hb : b < 9223372036854775808) : bits .xor .i64 (a : Int) (b : Int) = ((a ^^^ b : Nat) : Int) := by
  have hx : a ^^^ b < 2 ^ 63 := Nat.xor_lt_two_pow (by omega) (by omega)
  show IntKind.i64.wrap ((BitVec.ofInt 64 (a : Int) ^^^ BitVec.ofInt 64 (b : Int)).toNat : Int) = _
  rw [BitVec.toNat_xor, ofInt_i64 a ha, ofInt_i64 b hb, IntKind.wrap_i64]
  omega
/-- A block whose first n cells are numbers. -/
def RowC (w : World) (g n : Nat) (F : Nat → Int) : Prop := ∃ cur : Array Value, w.heap[g]? = some (.cells cur 3 (0, 0)) ∧ ∀ k, k < n → cur[k]? = some (.int .i64 (F k))
theorem RowC.at_ {w : World} {g n k : Nat} {F : Nat → Int} (h : RowC w g n F) (hk : k < n) : w.cell? ⟨g, k, none⟩ = some (.int .i64 (F k)) := by
  obtain ⟨cur, h1, h2⟩ := h
  exact (blk_cell h1).trans (h2 k hk)
theorem RowC.free {w : World} {g n : Nat} {F : Nat → Int} (h : RowC w g n F) (k : Nat) : w.frozen? ⟨g, k, none⟩ = false := by
  obtain ⟨cur, h1, h2⟩ := h
  exact blk_free h1 k
theorem RowC.lt {w : World} {g n : Nat} {F : Nat → Int} (h : RowC w g n F) : g < w.heap.size := by
  obtain ⟨cur, h1, h2⟩ := h
  exact lt_of_block' h1
theorem RowC.congr {w : World} {g n : Nat} {F G : Nat → Int} (h : RowC w g n F) (e : ∀ k, k < n → F k = G k) : RowC w g n G := by
  obtain ⟨cur, h1, h2⟩ := h
  exact ⟨cur, h1, fun k hk => by rw [← e k hk]; exact h2 k hk⟩
theorem RowC.set {w : World} {g n i : Nat} {F G : Nat → Int} {x : Int} (h : RowC w g n F) (hi : i < n) (hx : x = G i) (hg : ∀ k, k < n → k ≠ i → G k = F k) : RowC (w.setCell ⟨g, i, none⟩ (.int .i64 x)) g n G := by
  obtain ⟨cur, h1, h2⟩ := h
  refine ⟨cur.setIfInBounds i (.int .i64 x), blk_set h1 i _, fun k hk => ?_⟩
  have hks := (Array.getElem?_eq_some_iff.1 (h2 k hk)).1
  rw [Array.getElem?_setIfInBounds]
  by_cases e : i = k
  · subst e
    simp [hks, hx]
  · rw [if_neg e, hg k hk (fun e2 => e e2.symm)]
    exact h2 k hk
theorem RowC.rd {w : World} {g n : Nat} {F : Nat → Int} (h : RowC w g n F) : Rd w w.heap.size (some ⟨g, 0, none⟩) (ints (rowF F n)) := by
  have hl := h.lt
  refine .inr ⟨g, 0, rfl, hl, fun i u hu => ?_⟩
  by_cases hi : i < n
  · rw [ints_at (rowF_get hi)] at hu
    rw [Nat.zero_add, h.at_ hi]
    exact hu
  · rw [List.getElem?_eq_none (by rw [ints_length, rowF_len]; omega)] at hu
    cases hu
theorem RowC.up {w w' : World} {g n : Nat} {F : Nat → Int} (h : RowC w g n F) (hb : Below w.heap.size w w') : RowC w' g n F := by
  have hl := h.lt
  obtain ⟨cur, h1, h2⟩ := h
  exact ⟨cur, (hb.block g hl).trans h1, h2⟩
set_option maxRecDepth 4000 in
set_option maxHeartbeats 1000000 in
theorem Clone_any (Av : Option Addr) (l : List Int) (cv : Nat) (h0 : 0 < l.length) (hl : l.length ≤ 1000) (w : World) (hr : Rd w w.heap.size Av (ints l)) :
    Calls Try.prog 96 #[.slice Av l.length cv] w fun e w' => ∃ g c', e = .returned (.slice (some ⟨g, 0, none⟩) l.length c') ∧ w.heap.size ≤ g ∧ RowC w' g l.length (nth l) ∧ Below w.heap.size w w' := by
  obtain ⟨b, o, d, hA, hd, hc⟩ := hr.int 0 h0
  subst hA
  have HR := Lib.hid hr
  obtain ⟨W, hW, kW, sW, bW⟩ := one_blk w #[] 3
  have OW := Lib.hid (own_lit w 3 1 (Nat.le_refl w.heap.size))
  have HW := Lib.hid ((Below.refl w.heap.size w).alloc (Nat.le_refl _) (.cells #[] 3))
  obtain ⟨n, hn⟩ : ∃ n, l.length = n := ⟨_, rfl⟩
  have HN := Lib.hid hn
  rw [hn] at h0 hl ⊢
  clear hr hd hc hW kW sW bW hn
  have q22 : ∀ (w : World) (a : Option Addr) (n c n' c' : Nat), (binOp .eql 22 (.slice a n c) (.slice none n' c')).run Try.prog w = .ok (.bool a.isNone) w := fun w a n c n' c' => Lib.run_eql_slice_nil w _ _ a n c n' c' rfl
  go_enter Try.func96, Try.ntmps96
  go_wp2_with ((with_reducible show wpList _ _ _ (⟨some 7, _, _, _, _, _⟩ :: _) _ _); refine app eInt0 rfl (.tmp 5) (.tmp 6) rfl rfl (w0 := w) OW.out HW.out HW.out.size rfl (HR.out.below HW.out (Nat.le_refl _)) (by rw [ints_length, HN.out, Nat.mul_one]) (ints_one _) n (by omega) (by omega) ?_; intro A6 c6 w6 o6 b6 g6 h6; clear g6 h6; have O6 := Lib.hid o6; have B6 := Lib.hid b6; clear o6 b6)
  obtain ⟨g, c, cur, hv, _, hg, hblk, hcur⟩ := own_blk O6.out h0
  injection hv with e1 e2 e3
  have HF := Lib.hid (show RowC w6 g n (nth l) from ⟨cur, hblk, fun k hk => hcur k _ (by rw [List.nil_append]; exact ints_at (get_nth (by rw [HN.out]; exact hk)))⟩)
  subst e1
  clear hblk hcur e3
  go_ret
  exact ⟨g, c6, rfl, hg, HF.out, B6.out⟩
def mixF (f : Nat → Int) (s : Int) (p g q : Nat) : Int := if q < g then tfF f s (p + 1) q else tfF f s p q
set_option maxRecDepth 8000 in
set_option maxHeartbeats 4000000 in
theorem addParts_any (Av : Option Addr) (l : List Int) (cv n : Nat) (s : Int) (hs : s = 1 ∨ s = -1) (pv : Pv l n) (hup : upB 1000000 l = true) (w : World) (hr : Rd w w.heap.size Av (ints l)) :
    Calls Try.prog 66 #[.slice Av l.length cv, .int .i64 s] w fun e w' => ∃ g c', e = .returned (.slice (some ⟨g, 0, none⟩) l.length c') ∧ w.heap.size ≤ g ∧ RowC w' g l.length (tfF (nth l) s n) ∧ Below w.heap.size w w' := by
  have h32 := pv.le
  have hL0 : 0 < l.length := by rw [pv.len]; exact Nat.two_pow_pos n
  have HCl := Lib.hid (Clone_any Av l cv hL0 (by omega) w hr)
  have HPl := Lib.hid (fun w => players_any Av l.length cv (by omega) w)
  rw [pv.plZ] at HPl
  have hn5 := pv.five
  have HLe := Lib.hid (fun k (hk : k ≤ 5) g => show -32000000 ≤ tfF (nth l) s k g ∧ tfF (nth l) s k g ≤ 32000000 by
    have h1 := tf_le (M := 1000000) hs (fun g => upB_nth hup (by omega) g) k g
    have h2 : (2 : Int) ^ k ≤ 32 := by
      have : (2 : Nat) ^ k ≤ 2 ^ 5 := Nat.pow_le_pow_right (by omega) hk
      have e : ((2 ^ k : Nat) : Int) = (2 : Int) ^ k := by simp
      rw [← e]
      exact Int.ofNat_le.2 this
    generalize (2 : Int) ^ k = z at *
    omega)
  have HSt := Lib.hid (fun k g => show tfF (nth l) s (k + 1) g = if g.testBit k = true then tfF (nth l) s k g + s * tfF (nth l) s k (g ^^^ 2 ^ k) else tfF (nth l) s k g from rfl)
  have HT0 := Lib.hid (show tfF (nth l) s 0 = nth l from rfl)
  have HMx := Lib.hid (fun p g q => show mixF (nth l) s p g q = if q < g then tfF (nth l) s (p + 1) q else tfF (nth l) s p q from rfl)
  obtain ⟨L, hL⟩ : ∃ L, l.length = L := ⟨_, rfl⟩
  have HL2 := Lib.hid (show L = 2 ^ n by rw [← hL]; exact pv.len)
  rw [hL] at HCl HPl h32 hL0 ⊢
  generalize mixF (nth l) s = mx at *
  generalize tfF (nth l) s = tf at *
  have hs2 : -1 ≤ s ∧ s ≤ 1 := by rcases hs with rfl | rfl <;> omega
  obtain ⟨B, hB⟩ : ∃ B, w.heap.size = B := ⟨_, rfl⟩
  have HBz := Lib.hid hB
  rw [hB] at HCl
  clear pv hup hr hL hs hB
  go_enter Try.func66, Try.ntmps66
  go_wp2_with fail
  refine HCl.out.mono ?_
  rintro e w1 ⟨g0, c0, rfl, hg0, hrow, hb⟩
  have HR1 := Lib.hid hrow
  have HB1 := Lib.hid hb
  clear hrow hb
  go_wp2_with fail
  refine (HPl.out w1).mono ?_
  rintro e w2 ⟨rfl, rfl⟩
  go_wp2_with fail
  go_loopw [12] (fun z wr => ∃ p : Nat, p ≤ n ∧ z = .int .i64 (p : Int) ∧ RowC wr g0 L (tf p) ∧ Below B w wr) (fun z _ => n - (intOf z).toNat)
  case atStart => exact ⟨0, by omega, rfl, by rw [HT0.out]; exact HR1.out, HB1.out⟩
  case round =>
    obtain ⟨p, hp, rfl, hrow, hb⟩ := hrel
    have HRp := Lib.hid hrow
    have HBp := Lib.hid hb
    clear hrow hb
    by_cases hlt : p < n
    · have b0 : (0 : Int) ≤ (p : Int) := by omega
      have b1 : (p : Int) < (n : Int) := by omega
      have HAl := Lib.hid (alone_any p (by omega))
      obtain ⟨wo, rfl⟩ : ∃ wo : World, wo = wr := ⟨_, rfl⟩
      go_wp2_with fail
      go_loopw [17] (fun z wr => ∃ g : Nat, g ≤ L ∧ z = .int .i64 (g : Int) ∧ RowC wr g0 L (mx p g) ∧ Below B w wr) (fun z _ => L - (intOf z).toNat)
      case atStart => exact ⟨0, by omega, rfl, HRp.out.congr (fun k _ => by rw [HMx.out, if_neg (by omega)]), HBp.out⟩
      case round =>
        obtain ⟨g, hg, rfl, hrow, hb⟩ := hrel
        by_cases hlt2 : g < L
        · have a0 : (0 : Int) ≤ (g : Int) := by omega
          have a1 : (g : Int) < (L : Int) := by omega
          have HIs := Lib.hid (isIn_any p g (by omega) (by omega) wr)
          have HRw := Lib.hid hrow
          have HB3 := Lib.hid hb
          have HS1 := Lib.hid (HSt.out p g)
          cases ht : g.testBit p
          · have HN := Lib.hid (hrow.congr (G := mx p (g + 1)) (fun k _ => by
              rw [HMx.out, HMx.out]
              by_cases e : k = g
              · rw [e, if_neg (by omega), if_pos (by omega), HS1.out, if_neg (by rw [ht]; simp)]
              · by_cases e2 : k < g
                · rw [if_pos e2, if_pos (by omega)]
                · rw [if_neg e2, if_neg (by omega)]))
            rw [ht] at HIs
            clear hrow hb ht
            go_wp2_with fail
            refine HIs.out.mono ?_
            rintro e w4 ⟨rfl, rfl⟩
            go_wp2_with fail
            go_roundw
            case rel => exact ⟨g + 1, by omega, by go_num, HN.out, HB3.out⟩
            case measure => simp [intOf]; omega
          · have hxl : g ^^^ 2 ^ p < L := by rw [HL2.out]; exact Nat.xor_lt_two_pow (by rw [← HL2.out]; exact hlt2) (Nat.pow_lt_pow_right (by omega) hlt)
            have hxb : (g ^^^ 2 ^ p).testBit p = false := xor_self_bit ht
            have hx1 : mx p g g = tf p g := by rw [HMx.out, if_neg (by omega)]
            have hx2 : mx p g (g ^^^ 2 ^ p) = tf p (g ^^^ 2 ^ p) := by
              rw [HMx.out]
              by_cases e : g ^^^ 2 ^ p < g
              · rw [if_pos e, HSt.out, if_neg (by rw [hxb]; simp)]
              · rw [if_neg e]
            have c1 : wr.cell? ⟨g0, g, none⟩ = some (.int .i64 (tf p g)) := by rw [← hx1]; exact hrow.at_ hlt2
            have c2 : wr.cell? ⟨g0, g ^^^ 2 ^ p, none⟩ = some (.int .i64 (tf p (g ^^^ 2 ^ p))) := by rw [← hx2]; exact hrow.at_ hxl
            have f1 := hrow.free g
            have t1 := HLe.out p (by omega) g
            have t2 := HLe.out p (by omega) (g ^^^ 2 ^ p)
            have h6 := pow5 (p := p) (by omega)
            have hxor : bits .xor .i64 (g : Int) ((2 ^ p : Nat) : Int) = ((g ^^^ 2 ^ p : Nat) : Int) := i64_xor_nat _ _ (by omega) (by omega)
            have hS1 : tf (p + 1) g = tf p g + s * tf p (g ^^^ 2 ^ p) := by rw [HS1.out, if_pos ht]
            rw [ht] at HIs
            generalize g ^^^ 2 ^ p = gx at *
            generalize (2 ^ p : Nat) = y at *
            obtain ⟨x1, hx1'⟩ : ∃ x, tf p g = x := ⟨_, rfl⟩
            obtain ⟨x2, hx2'⟩ : ∃ x, tf p gx = x := ⟨_, rfl⟩
            rw [hx1'] at c1 t1 hS1
            rw [hx2'] at c2 t2 hS1
            have hm := mul_le (A := 1) (B := 32000000) (u := s) (v := x2) hs2 t2
            have q1 : IntKind.i64.wrap (s * x2) = s * x2 := wrapI_mid (by unfold Mid; omega)
            have q2 : IntKind.i64.wrap (x1 + s * x2) = x1 + s * x2 := wrapI_mid (by unfold Mid; omega)
            have a2 : (0 : Int) ≤ (gx : Int) := by omega
            have a3 : (gx : Int) < (L : Int) := by omega
            have HN := Lib.hid (show RowC (wr.setCell ⟨g0, g, none⟩ (.int .i64 (x1 + s * x2))).drew g0 L (mx p (g + 1)) from RowC.set (w := wr) (G := mx p (g + 1)) hrow hlt2 (by rw [HMx.out, if_pos (Nat.lt_succ_self g), hS1]) (fun k _ hk => by
              rw [HMx.out, HMx.out]
              by_cases e2 : k < g
              · rw [if_pos e2, if_pos (by omega)]
              · rw [if_neg e2, if_neg (by omega)]))
            have HB4 := Lib.hid ((hb.setCell (p := ⟨g0, g, none⟩) hg0 (.int .i64 (x1 + s * x2))).drew)
            clear hrow hb ht hxb hx1 hx2 t1 t2 h6 hS1 hx1' hx2' hm hxl
            go_wp2_with fail
            refine HIs.out.mono ?_
            rintro e w4 ⟨rfl, rfl⟩
            go_wp2_with fail
            go_region_law (first | (go_simp; go_at_call 54; refine (HAl.out _).mono ?_; rintro e w9 ⟨rfl, rfl⟩))
            all_goals (
              go_wp2_with fail
              go_roundw
              (case rel => exact ⟨g + 1, by omega, by go_num, HN.out, HB4.out⟩)
              (case measure => simp [intOf]; omega))
        · have hgl : g = L := by omega
          have HN := Lib.hid (hrow.congr (G := tf (p + 1)) (fun k hk => by rw [HMx.out, if_pos (by omega)]))
          have HB3 := Lib.hid hb
          subst hgl
          clear hlt2 hrow hb
          go_wp2_with fail
          go_roundw
          case rel => exact ⟨p + 1, by omega, by go_num, HN.out, HB3.out⟩
          case measure => simp [intOf]; omega
    · have hpn : p = n := by omega
      subst hpn
      clear hlt
      go_wp2_with fail
      go_ret
      exact ⟨g0, c0, rfl, by rw [HBz.out]; exact hg0, HRp.out, by rw [HBz.out]; exact HBp.out⟩
end Go.Proofs.Ytfmhanpibgmgfaa

/-
  Texts merged into one (Lu6, Lu7, Lu8, Lb4, Lu9, Lu10, Lu11, Lu12): contracts of the functions of package lure, what is reckoned of games. Conditions: as each says.
-/
import Derived.Test.YtibcjkpfpiamkabQ2
import Derived.Lib.QuietBelow
import Derived.Deep.RegionHeld3
namespace Go.Proofs.Ytibcjkpfpiamkab
open Go.RowKit
set_option linter.unusedVariables false

theorem and_hit {n S : Nat} {L : List Int} (hs : setL n L = true) (hn : n ≤ 32) (hS : S < 4294967296) : (bits .and .i64 ((gatN L : Nat) : Int) (S : Int) != 0) = hit S L := by
  have hg : gatN L < 4294967296 := bit32 _
  rw [i64_and_nat _ _ (by omega) (by omega), ← mt_hit hs hn]
  unfold mtB
  by_cases h : gatN L &&& S = 0
  · rw [h]; rfl
  · rw [decide_eq_false h]
    show _ = true
    rw [bne_iff_ne]
    intro h2
    exact h (by exact_mod_cast h2)
theorem and_inn {n S : Nat} {L : List Int} (hs : setL n L = true) (hn : n ≤ 32) (hS : S < 4294967296) : (bits .and .i64 ((gatN L : Nat) : Int) (S : Int) == ((gatN L : Nat) : Int)) = inn S L := by
  have hg : gatN L < 4294967296 := bit32 _
  rw [i64_and_nat _ _ (by omega) (by omega), ← li_inn hs hn hS, Bool.eq_iff_iff, li_sub hg hS, beq_iff_eq]
  constructor
  · intro h j hj
    have h1 : gatN L &&& S = gatN L := by exact_mod_cast h
    rw [← h1, Nat.testBit_and, Bool.and_eq_true] at hj
    exact hj.2
  · intro h
    have : gatN L &&& S = gatN L := by
      apply Nat.eq_of_testBit_eq
      intro j
      rw [Nat.testBit_and]
      cases hj : (gatN L).testBit j
      · rfl
      · rw [h j hj]; rfl
    rw [this]
/-- What is laid of a game that a walk reads: the box, the rows, what they say of G. -/
structure Laid (w W : World) (G : Gm) (A0 : Option Addr) (c0 : Nat) (own : List Int) (A1 : Option Addr) (c1 : Nat) (rs : List Rw) : Prop where
  hW : w.alloc (.cells #[.slice A0 own.length c0, .slice A1 rs.length c1] 25) = W
  p0 : W.cell? ⟨w.heap.size, 0, none⟩ = some (.slice A0 own.length c0)
  p1 : W.cell? ⟨w.heap.size, 1, none⟩ = some (.slice A1 rs.length c1)
  hz : w.heap.size < W.heap.size
  b : Below w.heap.size w W
  r0 : Rd W W.heap.size A0 (ints own)
  r1 : RdR W W.heap.size A1 rs
  rg : RdG W W.heap.size ⟨A0, c0, own, A1, c1, rs⟩
  ho : G.own = own
  len : rs.length = own.length
  pos : 0 < own.length
  le : own.length ≤ 16
  who : ∀ (k : Nat) d, own[k]? = some d → d = 0 ∨ d = 1
  fit : ∀ r ∈ rs, r.l.length ≤ 9223372036854775807
  row : ∀ (k : Nat) A c l, rs[k]? = some ⟨A, c, l⟩ → G.row k = l
  set : ∀ (k : Nat) A c l, rs[k]? = some ⟨A, c, l⟩ → setL own.length l = true
  fc : ∀ (k : Nat) A c l d (b : Int) S, rs[k]? = some ⟨A, c, l⟩ → own[k]? = some d → fcB G b S k = (if d = b then hit S l else inn S l)
theorem laid_of (w : World) (g : Gv) (hr : RdG w w.heap.size g) (hf : Gfit g) (hE : gE g.G = 0) : ∃ W, Laid w W g.G g.A0 g.c0 g.own g.A1 g.c1 g.rs := by
  obtain ⟨W, hW, p0, p1, hz, hb, hr1⟩ := box_game w g 25 hr
  have H := gE_zero hE
  have hm : g.G.mv.length = g.rs.length := by simp [Gv.G]
  have ho : g.G.own = g.own := rfl
  have hlen : g.rs.length = g.own.length := hm.symm.trans H.len
  refine ⟨W, hW, p0, p1, hz, hb, hr1.o, hr1.r, hr1, rfl, hlen, H.pos, H.le, fun k d hd => ?_, fun r hr => ?_, fun k A c l h => row_of h, fun k A c l h => ?_, fun k A c l d b S h hd => fcB_at hd (row_of h)⟩
  · have hk := (List.getElem?_eq_some_iff.1 hd).1
    have := H.who (p := k) hk
    rw [who_at (show g.G.own[k]? = some d from hd)] at this
    exact this
  · have := hf.rs r hr
    unfold maxLen at this
    omega
  · have hk := (List.getElem?_eq_some_iff.1 h).1
    have := H.set (p := k) (by rw [ho]; omega)
    rw [row_of h] at this
    exact this
theorem pow_sub_u32 {n : Nat} (h : n ≤ 16) : (2 : Int) ^ n % 4294967296 - 1 = ((2 ^ n - 1 : Nat) : Int) := by
  have h1 := shl_u32 (k := n) (by omega)
  have h2 := Nat.two_pow_pos n
  rw [h1]
  omega
theorem every_any (g : Gv) (w : World) (hr : RdG w w.heap.size g) (hf : Gfit g) (hE : gE g.G = 0) :
    Calls Try.prog 24 #[g.v] w fun e w' => e = .returned (.int .u32 (2 ^ g.own.length - 1 : Nat)) ∧ Below w.heap.size w w' := by
  obtain ⟨W, hl⟩ := laid_of w g hr hf hE
  have LA := Lib.hid hl
  clear hr hf hE hl
  unfold Gv.v
  obtain ⟨A0, c0, own, A1, c1, rs⟩ := g
  simp only at LA ⊢
  have hW := LA.out.hW
  have p0 := LA.out.p0
  have p1 := LA.out.p1
  have hn16 := LA.out.le
  have b1 : (own.length : Int) < 32 := by omega
  have HSh := shl_u32 (k := own.length) (by omega)
  have hpp := Nat.two_pow_pos own.length
  have hpl : 2 ^ own.length ≤ 65536 := (show 2 ^ own.length ≤ 2 ^ 16 from Nat.pow_le_pow_right (by omega) hn16)
  have HE : ((2 ^ own.length - 1 : Nat) : Int) = ((2 ^ own.length : Nat) : Int) - 1 := by omega
  rw [HE]
  generalize 2 ^ own.length = N at *
  have hwr : IntKind.u32.wrap ((N : Int) - 1) = (N : Int) - 1 := by rw [IntKind.wrap_u32]; omega
  go_enter Try.func24, Try.ntmps24
  go_wp2_with fail
  go_ret
  exact ⟨by first | rfl | (rw [HSh]; rfl) | (rw [HSh, hwr]; rfl), LA.out.b⟩
end Go.Proofs.Ytibcjkpfpiamkab
namespace Go.Proofs.Ytibcjkpfpiamkab
open Go.RowKit
set_option linter.unusedVariables false

theorem lv_next (G : Gm) (goal k : Nat) : lv G goal (k + 1) = goal ||| fcN G 0 (lv G goal k) := rfl
set_option maxRecDepth 4000 in
theorem numbered_any (A : Option Addr) (c : Nat) (R : List Int) (m : Int) (w : World) (hr : Rd w w.heap.size A (ints R)) (hn : R.length ≤ 16) :
    Calls Try.prog 28 #[.slice A R.length c, .int .i64 m] w fun e w' => e = .returned (.int .u32 (numN R m : Nat)) ∧ w = w' := by
  have HR := Lib.hid hr
  clear hr
  have HY := Lib.hid (fun k (h : k < 31) => or_u32 (fun p => inR m (R.getD p (-1))) h)
  have HN := Lib.hid (fun k h => bitK_no (f := fun p => inR m (R.getD p (-1))) (k := k) h)
  have HX := Lib.hid (fun k d (h : R[k]? = some d) => (show inR m (R.getD k (-1)) = inR m d by rw [List.getD_eq_getElem?_getD, h]; rfl))
  have HE := Lib.hid (show numN R m = bitK (fun p => inR m (R.getD p (-1))) R.length from rfl)
  have HBl := Lib.hid (fun k (h : k ≤ 31) => bitK_32 (fun p => inR m (R.getD p (-1))) h)
  go_enter Try.func28, Try.ntmps28
  go_wp2
  go_loop [5, 10] (fun v i => ∃ k : Nat, k ≤ R.length ∧ i = .int .i64 k ∧ v = .int .u32 (bitK (fun p => inR m (R.getD p (-1))) k : Nat)) (fun _ i => R.length - (intOf i).toNat)
  case atStart => exact ⟨0, by omega, rfl, rfl⟩
  case round =>
    obtain ⟨k, hk, rfl, rfl⟩ := hrel
    by_cases hlt : k < R.length
    · obtain ⟨b, o, d, rfl, hd, hc⟩ := HR.out.int k hlt
      have HXk := HX.out k d hd.out
      have HSh := Lib.hid (shl_u32 (k := k) (by omega))
      have HYk := Lib.hid (HY.out k (by omega))
      have HNk := Lib.hid (HN.out k)
      have hbl := HBl.out k (by omega)
      have b0 : (0 : Int) ≤ (k : Int) := by omega
      have b1 : (k : Int) < 32 := by omega
      generalize bitK (fun p => inR m (R.getD p (-1))) k = F at *
      by_cases h0 : 0 ≤ d
      · have e0 : decide (0 ≤ d) = true := by simpa using h0
        by_cases h1 : d ≤ m
        · have e1 : decide (d ≤ m) = true := by simpa using h1
          have HE := Lib.hid (HYk.out (by rw [HXk]; exact inR_iff.2 ⟨h0, h1⟩))
          clear HXk h0 h1
          go_wp2_with fail
          go_round
          case rel => exact ⟨k + 1, by omega, by go_num, by rw [HSh.out, HE.out]⟩
          case measure => simp [intOf]; omega
        · have e1 : decide (d ≤ m) = false := by simpa using h1
          have HE := Lib.hid (HNk.out (by rw [HXk]; unfold inR; rw [e1, Bool.and_false]))
          clear HXk h0 h1
          go_wp2_with fail
          go_round
          case rel => exact ⟨k + 1, by omega, by go_num, by rw [HE.out]⟩
          case measure => simp [intOf]; omega
      · have e0 : decide (0 ≤ d) = false := by simpa using h0
        have HE := Lib.hid (HNk.out (by rw [HXk]; unfold inR; rw [e0]; rfl))
        clear HXk h0
        go_wp2_with fail
        go_round
        case rel => exact ⟨k + 1, by omega, by go_num, by rw [HE.out]⟩
        case measure => simp [intOf]; omega
    · have hks : k = R.length := by omega
      subst hks
      go_wp2_with fail
      go_ret
      exact ⟨by rw [HE.out]; rfl, rfl⟩
end Go.Proofs.Ytibcjkpfpiamkab
namespace Go.Proofs.Ytibcjkpfpiamkab
open Go.RowKit
set_option linter.unusedVariables false

def rowV (f : Nat → Value) (n : Nat) : Array Value := ((List.range n).map f).toArray
theorem rowV_at {f : Nat → Value} {n j : Nat} (h : j < n) : (rowV f n)[j]? = some (f j) := by simp [rowV, h]
theorem rowV_size (f : Nat → Value) (n : Nat) : (rowV f n).size = n := by simp [rowV]
theorem rowV_congr {f g : Nat → Value} {n : Nat} (h : ∀ j, j < n → f j = g j) : rowV f n = rowV g n := by
  unfold rowV
  congr 1
  exact List.map_congr_left fun j hj => by rw [h j (List.mem_range.1 hj)]
theorem rowV_set (f : Nat → Value) (n k : Nat) (v : Value) : (rowV f n).setIfInBounds k v = rowV (fun j => if j = k then v else f j) n := by
  unfold rowV
  rw [List.setIfInBounds_toArray]
  congr 1
  refine List.ext_getElem? fun j => ?_
  rw [List.getElem?_set]
  simp only [List.getElem?_map, List.length_map, List.length_range]
  by_cases hj : k = j
  · subst hj
    by_cases hk : k < n
    · rw [if_pos rfl, if_pos hk, List.getElem?_range hk]; simp
    · rw [if_pos rfl, if_neg hk, List.getElem?_eq_none (by simpa using hk)]; rfl
  · rw [if_neg hj]
    by_cases hjn : j < n
    · rw [List.getElem?_range hjn]; simp [Ne.symm hj]
    · rw [List.getElem?_eq_none (by simpa using hjn)]; rfl
def rowI (f : Nat → Int) (n : Nat) : Array Value := rowV (fun p => .int .i64 (f p)) n
theorem rowI_congr {f g : Nat → Int} {n : Nat} (h : ∀ j, j < n → f j = g j) : rowI f n = rowI g n := rowV_congr fun j hj => by rw [h j hj]
theorem rowI_set (f : Nat → Int) (n k : Nat) (v : Int) : (rowI f n).setIfInBounds k (.int .i64 v) = rowI (fun j => if j = k then v else f j) n := by
  unfold rowI
  rw [rowV_set]
  refine rowV_congr fun j hj => ?_
  by_cases h : j = k
  · rw [if_pos h]
    show _ = Value.int .i64 (if j = k then v else f j)
    rw [if_pos h]
  · rw [if_neg h]
    show _ = Value.int .i64 (if j = k then v else f j)
    rw [if_neg h]
theorem rowI_ints (f : Nat → Int) (n : Nat) : rowI f n = (ints ((List.range n).map f)).toArray := by
  unfold rowI rowV ints
  rw [List.map_map]
  rfl
/-- Nothing but the block g has turned. -/
def Only (g : Nat) (w w' : World) : Prop := w'.os = w.os ∧ w'.tape = w.tape ∧ w'.output = w.output ∧ w'.heap.size = w.heap.size ∧ ∀ b, b ≠ g → w'.heap[b]? = w.heap[b]?
theorem Only.refl (g : Nat) (w : World) : Only g w w := ⟨rfl, rfl, rfl, rfl, fun _ _ => rfl⟩
theorem Only.set {g : Nat} {w w' : World} (h : Only g w w') (i : Nat) (u : Value) : Only g w (w'.setCell ⟨g, i, none⟩ u) := by
  refine ⟨h.1, h.2.1, h.2.2.1, ?_, fun b hb => ?_⟩
  · rw [← h.2.2.2.1]
    simp [World.setCell]
  · rw [← h.2.2.2.2 b hb]
    simp [World.setCell, Array.getElem?_modify, Ne.symm hb]
theorem Only.cell {g : Nat} {w w' : World} (h : Only g w w') {b o : Nat} (hb : b ≠ g) : w'.cell? ⟨b, o, none⟩ = w.cell? ⟨b, o, none⟩ := by
  unfold World.cell?
  simp only [h.2.2.2.2 b hb]
theorem Only.below {g B : Nat} {w w' : World} (h : Only g w w') (hB : B ≤ g) : Below B w w' := ⟨h.1, h.2.1, h.2.2.1, Nat.le_of_eq h.2.2.2.1.symm, fun k hk => h.2.2.2.2 k (by omega)⟩
theorem heap_set_far {w : World} {g b : Nat} (h : b ≠ g) (i : Nat) (u : Value) : (w.setCell ⟨g, i, none⟩ u).heap[b]? = w.heap[b]? := by
  simp [World.setCell, Array.getElem?_modify, Ne.symm h]
/-- How the variables of ranksOf lie. -/
structure RkSt (w : World) (br bs bx M n : Nat) (r R : Nat) (f : Nat → Int) : Prop where
  hr : w.heap[br]? = some (.cells #[.int .i64 (r : Int)] 3 (0, 0))
  hs : w.heap[bs]? = some (.cells #[.slice (some ⟨M, 0, none⟩) n n] 22 (0, 0))
  hx : w.heap[bx]? = some (.cells #[.int .u32 (R : Int)] 41 (0, 0))
  hM : w.heap[M]? = some (.cells (rowI f n) 3 (0, 0))
structure Dis (B br bs bx M : Nat) : Prop where
  a : br ≠ bs
  b : br ≠ bx
  c : br ≠ M
  d : bs ≠ bx
  e : bs ≠ M
  f : bx ≠ M
  b1 : B ≤ br
  b2 : B ≤ bs
  b3 : B ≤ bx
  b4 : B ≤ M
theorem RkSt.up {w w' : World} {br bs bx M n r R : Nat} {f : Nat → Int} (h : RkSt w br bs bx M n r R f) (hb : Below w.heap.size w w') : RkSt w' br bs bx M n r R f :=
  ⟨(hb.block _ (lt_of_block h.hr)).trans h.hr, (hb.block _ (lt_of_block h.hs)).trans h.hs, (hb.block _ (lt_of_block h.hx)).trans h.hx, (hb.block _ (lt_of_block h.hM)).trans h.hM⟩
theorem lst_all {F n : Nat} (hF : F < 2 ^ n) (hn : n ≤ 16) {k : Nat} {d : Int} (h : (lst F)[k]? = some d) : ∃ p : Nat, d = (p : Int) ∧ p < n ∧ F.testBit p = true := by
  obtain ⟨p, hp, h16, hf⟩ := listK_mem (List.mem_of_getElem? h)
  exact ⟨p, hp, bit_in hF hf, hf⟩
theorem memB_lst {F : Nat} (p : Nat) (hp : p < 16) : memB (lst F) p = F.testBit p := memB_listK _ 16 p hp
set_option maxRecDepth 4000 in
set_option maxHeartbeats 1600000 in
theorem grow_any (F r R n : Nat) (f : Nat → Int) (br bs bx M B : Nat) (w : World) (hst : RkSt w br bs bx M n r R f) (hd : Dis B br bs bx M) (hF : F < 2 ^ n) (hn : n ≤ 16) (hR : R < 4294967296) (hr : r ≤ 100) (hBw : B ≤ w.heap.size) :
    Calls Try.prog 43 #[.int .u32 F, .pointer (some ⟨br, 0, none⟩), .pointer (some ⟨bs, 0, none⟩), .pointer (some ⟨bx, 0, none⟩)] w fun e w' =>
      e = .returned (.tuple #[]) ∧ RkSt w' br bs bx M n (r + 1) (R ||| F) (fun p => if F.testBit p then (r : Int) else f p) ∧ Below B w w' := by
  have hpl : 2 ^ n ≤ 65536 := show 2 ^ n ≤ 2 ^ 16 from Nat.pow_le_pow_right (by omega) hn
  have HL := Lib.hid (fun w => list_any F w (by omega))
  have ST := Lib.hid hst
  have D := Lib.hid hd
  have HA := Lib.hid (fun k d h => lst_all hF hn (k := k) (d := d) h)
  have HOr := Lib.hid (u32_or_nat R F hR (by omega))
  have HMem := Lib.hid (fun p hp => memB_lst (F := F) p hp)
  have hLl := lst_le F
  obtain ⟨L, hL⟩ : ∃ L, lst F = L := ⟨_, rfl⟩
  rw [hL] at HL HA HMem hLl
  clear hst hd hF hL
  go_enter Try.func43, Try.ntmps43
  go_wp2_with fail
  refine (HL.out w).mono ?_
  rintro e w1 ⟨A, c, rfl, hc, hfr, hrd, hb⟩
  have R1 := Lib.hid hrd
  have B1 := Lib.hid hb
  have ST1 := Lib.hid (ST.out.up hb)
  have FR := Lib.hid hfr
  have hMlt := Lib.hid (lt_of_block ST.out.hM)
  clear hb hfr hrd
  go_wp2_with fail
  go_loopw [10] (fun i wr => ∃ k : Nat, k ≤ L.length ∧ i = .int .i64 k ∧ wr.heap[M]? = some (.cells (rowI (fun p => if memB (L.take k) p then (r : Int) else f p) n) 3 (0, 0)) ∧ Only M w1 wr) (fun i _ => L.length - (intOf i).toNat)
  case atStart => exact ⟨0, by omega, rfl, ST1.out.hM, Only.refl _ _⟩
  case round =>
    obtain ⟨k, hk, rfl, hM, ho⟩ := hrel
    have HM := Lib.hid hM
    have O := Lib.hid ho
    clear hM ho
    have cs := Lib.hid ((O.out.2.2.2.2 _ D.out.e).trans ST1.out.hs)
    have cr := Lib.hid ((O.out.2.2.2.2 _ D.out.c).trans ST1.out.hr)
    have cx := Lib.hid ((O.out.2.2.2.2 _ D.out.f).trans ST1.out.hx)
    by_cases hlt : k < L.length
    · obtain ⟨b, o, d, rfl, hd, hc0⟩ := R1.out.int k hlt
      obtain ⟨p, rfl, hp, hFp⟩ := HA.out k d hd.out
      have hbM : b ≠ M := by have h1 := FR.out _ rfl; have h2 := hMlt.out; simp only at h1; omega
      have hc1 := (O.out.cell (o := o + k) hbM).trans hc0
      have c0 : wr.cell? ⟨bs, 0, none⟩ = some (.slice (some ⟨M, 0, none⟩) n n) := by rw [blk_cell cs.out]; rfl
      have c1 : wr.cell? ⟨br, 0, none⟩ = some (.int .i64 r) := by rw [blk_cell cr.out]; rfl
      have c2 : wr.cell? ⟨M, p, none⟩ = some (.int .i64 (if memB (L.take k) p then (r : Int) else f p)) := by rw [blk_cell HM.out]; exact rowV_at hp
      have hfree := blk_free HM.out p
      have b0 : (0 : Int) ≤ (p : Int) := by omega
      have b1 : (p : Int) < (n : Int) := by omega
      have HN := Lib.hid (fun q => memB_next hd.out q)
      have HS := Lib.hid (blk_set HM.out p (.int .i64 (r : Int)))
      have OS := Lib.hid (O.out.set p (.int .i64 (r : Int)))
      clear hc0 hFp
      generalize (if memB (L.take k) p then (r : Int) else f p) = old at c2
      go_wp2_with fail
      go_roundw
      case rel =>
        refine ⟨k + 1, by omega, by go_num, ?_, OS.out⟩
        rw [HS.out, rowI_set]
        rw [show rowI (fun j => if j = p then (r : Int) else if memB (L.take k) j then (r : Int) else f j) n = rowI (fun q => if memB (L.take (k + 1)) q then (r : Int) else f q) n from rowI_congr fun j _ => by
          rw [HN.out j]
          by_cases hjp : j = p
          · subst hjp; simp
          · rw [if_neg hjp, decide_eq_false (show ¬ p = j from fun h => hjp h.symm), Bool.or_false]]
      case measure => simp [intOf]; omega
    · have hks : k = L.length := by omega
      subst hks
      have c1 : wr.cell? ⟨br, 0, none⟩ = some (.int .i64 r) := by rw [blk_cell cr.out]; rfl
      have c3 : wr.cell? ⟨bx, 0, none⟩ = some (.int .u32 R) := by rw [blk_cell cx.out]; rfl
      have f1 := blk_free cx.out 0
      have f2 := blk_free cr.out 0
      have D2 := D.out
      have nb := D2.b
      have c4 : (wr.setCell ⟨bx, 0, none⟩ (.int .u32 ((R ||| F : Nat) : Int))).cell? ⟨br, 0, none⟩ = some (.int .i64 r) := (((Only.refl bx wr).set 0 (.int .u32 ((R ||| F : Nat) : Int))).cell nb).trans c1
      have HO := HOr.out
      have HM2 := HM.out
      rw [List.take_length] at HM2
      have HM3 := Lib.hid HM2
      clear D2 HM2
      go_wp2_with fail
      go_end0
      have D3 := D.out
      have hM2 := HM3.out
      rw [show rowI (fun p => if memB L p then (r : Int) else f p) n = rowI (fun p => if F.testBit p then (r : Int) else f p) n from rowI_congr fun j hj => by rw [HMem.out j (by omega)]] at hM2
      refine ⟨rfl, ⟨?_, ?_, ?_, ?_⟩, ?_⟩
      · rw [blk_set ((heap_set_far D3.b _ _).trans cr.out)]; rfl
      · exact ((heap_set_far (Ne.symm D3.a) _ _).trans (heap_set_far D3.d _ _)).trans cs.out
      · rw [heap_set_far (Ne.symm D3.b), blk_set cx.out]; rfl
      · exact ((heap_set_far (Ne.symm D3.c) _ _).trans (heap_set_far (Ne.symm D3.f) _ _)).trans hM2
      · exact (B1.out.mono hBw).trans ((O.out.below D3.b4).trans ((((Only.refl bx _).set 0 _).below D3.b3).trans (((Only.refl br _).set 0 _).below D3.b1)))
end Go.Proofs.Ytibcjkpfpiamkab
namespace Go.Proofs.Ytibcjkpfpiamkab
open Go.RowKit
set_option linter.unusedVariables false

def dif (P u : Nat) : Nat := P &&& (18446744073709551615 - u)
theorem dif_test {P u j : Nat} (hP : P < 9223372036854775808) (hu : u < 9223372036854775808) : (dif P u).testBit j = (P.testBit j && !u.testBit j) := by
  have e : 18446744073709551615 - u = 2 ^ 64 - (u + 1) := by omega
  unfold dif
  rw [Nat.testBit_and, e, Nat.testBit_two_pow_sub_succ (show u < 2 ^ 64 by omega)]
  by_cases hj : j < 64
  · rw [decide_eq_true hj, Bool.true_and]
  · have : P.testBit j = false := Nat.testBit_lt_two_pow (Nat.lt_of_lt_of_le (show P < 2 ^ 63 from hP) (Nat.pow_le_pow_right (by omega) (by omega)))
    rw [this, Bool.false_and, Bool.false_and]
theorem dif_le (P u : Nat) : dif P u ≤ P := Nat.and_le_left
theorem i64_andNot_nat (a b : Nat) (ha : a < 9223372036854775808) (hb : b < 9223372036854775808) : bits .andNot .i64 (a : Int) (b : Int) = ((dif a b : Nat) : Int) := by
  have hx : dif a b ≤ a := dif_le a b
  show IntKind.i64.wrap ((BitVec.ofInt 64 (a : Int) &&& ~~~BitVec.ofInt 64 (b : Int)).toNat : Int) = _
  rw [BitVec.toNat_and, BitVec.toNat_not, ofInt_i64 a ha, ofInt_i64 b hb]
  have e : 2 ^ 64 - 1 - b = 18446744073709551615 - b := by omega
  rw [e]
  change IntKind.i64.wrap ((dif a b : Nat) : Int) = _
  rw [IntKind.wrap_i64]
  omega
/-- What is found in round r. -/
def fnd (G : Gm) (goal r : Nat) : Nat := lv G goal (r + 1) &&& (4294967295 - lv G goal r)
/-- The ranks that are given before round r. -/
def rkR (G : Gm) (goal r p : Nat) : Int := if (lv G goal r).testBit p then rkI G goal p else -1
theorem not_at {y : Nat} (hy : y < 4294967296) {j : Nat} (hj : j < 32) : (4294967295 - y).testBit j = !y.testBit j := by
  rw [show (4294967295 - y) = 2 ^ 32 - (y + 1) by omega, Nat.testBit_two_pow_sub_succ hy]
  simp [hj]
theorem not_high {y : Nat} {j : Nat} (hj : 32 ≤ j) : (4294967295 - y).testBit j = false := high_bits (show 4294967295 - y < 2 ^ 32 by omega) hj
section
variable {G : Gm} {goal : Nat}
theorem lv_32 (hg : goal < 2 ^ G.own.length) (h16 : G.own.length ≤ 16) (k : Nat) : lv G goal k < 4294967296 := by
  have h := lv_lt hg k
  have : 2 ^ G.own.length ≤ 2 ^ 16 := Nat.pow_le_pow_right (by omega) h16
  omega
theorem fnd_at (hg : goal < 2 ^ G.own.length) (h16 : G.own.length ≤ 16) (r j : Nat) : (fnd G goal r).testBit j = ((lv G goal (r + 1)).testBit j && !(lv G goal r).testBit j) := by
  unfold fnd
  rw [Nat.testBit_and]
  rcases Nat.lt_or_ge j 32 with h | h
  · rw [not_at (lv_32 hg h16 r) h]
  · rw [not_high h, high_bits (show lv G goal (r + 1) < 2 ^ 32 from lv_32 hg h16 _) h]
    rfl
theorem fnd_lt (hg : goal < 2 ^ G.own.length) (r : Nat) : fnd G goal r < 2 ^ G.own.length := Nat.lt_of_le_of_lt Nat.and_le_left (lv_lt hg _)
theorem fnd_zero (H : Ok G) (hg : goal < 2 ^ G.own.length) : fnd G goal 0 = goal := by
  apply Nat.eq_of_testBit_eq
  intro j
  rw [fnd_at hg H.le, lv_one H]
  show (_ && !(0 : Nat).testBit j) = _
  rw [Nat.zero_testBit]
  simp
theorem goal_sub (H : Ok G) (r : Nat) : sub goal (lv G goal (r + 1)) := by
  have h := lv_mono (G := G) (goal := goal) (show 1 ≤ r + 1 by omega)
  rw [lv_one H] at h
  exact h
theorem fnd_next (H : Ok G) (hg : goal < 2 ^ G.own.length) (r : Nat) : fcN G 0 (lv G goal (r + 1)) &&& (4294967295 - lv G goal (r + 1)) = fnd G goal (r + 1) := by
  unfold fnd
  apply Nat.eq_of_testBit_eq
  intro j
  rw [Nat.testBit_and, Nat.testBit_and]
  have e : lv G goal (r + 1 + 1) = goal ||| fcN G 0 (lv G goal (r + 1)) := rfl
  rw [e, Nat.testBit_or]
  rcases Nat.lt_or_ge j 32 with h | h
  · rw [not_at (lv_32 hg H.le (r + 1)) h]
    cases hj : (lv G goal (r + 1)).testBit j
    · have : goal.testBit j = false := by
        cases hb : goal.testBit j
        · rfl
        · rw [goal_sub H r j hb] at hj; cases hj
      rw [this, Bool.false_or]
    · simp
  · rw [not_high h]; simp
theorem lv_fnd (hg : goal < 2 ^ G.own.length) (h16 : G.own.length ≤ 16) (r : Nat) : lv G goal r ||| fnd G goal r = lv G goal (r + 1) := by
  apply Nat.eq_of_testBit_eq
  intro j
  rw [Nat.testBit_or, fnd_at hg h16]
  cases hj : (lv G goal r).testBit j
  · simp
  · rw [lv_up (G := G) (goal := goal) r j hj]; rfl
theorem rkR_next (hg : goal < 2 ^ G.own.length) (h16 : G.own.length ≤ 16) (r p : Nat) : (if (fnd G goal r).testBit p then (r : Int) else rkR G goal r p) = rkR G goal (r + 1) p := by
  unfold rkR
  rw [fnd_at hg h16]
  cases h1 : (lv G goal r).testBit p
  · cases h2 : (lv G goal (r + 1)).testBit p
    · rfl
    · have h3 := (rk_iff hg p r).1 h2
      obtain ⟨m, hm⟩ := Int.eq_ofNat_of_zero_le h3.1
      have h4 := (rk_some hm).1
      have hmr : m = r := by
        rcases Nat.lt_or_ge m r with h5 | h5
        · rw [lv_mono (G := G) (goal := goal) (show m + 1 ≤ r by omega) p h4] at h1; cases h1
        · omega
      rw [hm, hmr]
      rfl
  · rw [lv_up (G := G) (goal := goal) r p h1]
    simp
theorem fnd_more {r : Nat} (hg : goal < 2 ^ G.own.length) (h : fnd G goal r ≠ 0) : r < G.own.length := by
  rcases Nat.lt_or_ge r G.own.length with h1 | h1
  · exact h1
  · exfalso
    apply h
    unfold fnd
    rw [lv_end hg (show G.own.length ≤ r + 1 by omega), lv_end hg h1]
    apply Nat.eq_of_testBit_eq
    intro j
    rw [Nat.testBit_and, Nat.zero_testBit]
    rcases Nat.lt_or_ge j 32 with h2 | h2
    · cases hj : (lv G goal G.own.length).testBit j
      · rfl
      · rcases Nat.lt_or_ge (lv G goal G.own.length) 4294967296 with h3 | h3
        · rw [not_at h3 h2, hj]; rfl
        · rw [show 4294967295 - lv G goal G.own.length = 0 by omega, Nat.zero_testBit]; rfl
    · rw [not_high h2]; simp
theorem rkR_end (hg : goal < 2 ^ G.own.length) (h16 : G.own.length ≤ 16) {r : Nat} (h : fnd G goal r = 0) (p : Nat) : rkR G goal r p = rkI G goal p := by
  have h1 : lv G goal r = lv G goal (r + 1) := by
    have h2 := lv_fnd (G := G) hg h16 r
    rw [h, Nat.or_zero] at h2
    exact h2
  have h2 := lv_stop hg h1
  unfold rkR
  by_cases hb : (lv G goal r).testBit p = true
  · rw [if_pos hb]
  · rw [if_neg hb]
    rw [h2] at hb
    exact (rk_none hg hb).symm
theorem rkR_zero (p : Nat) : rkR G goal 0 p = -1 := by
  unfold rkR
  rw [if_neg]
  show ¬ (0 : Nat).testBit p = true
  rw [Nat.zero_testBit]
  decide
end
theorem won_32 {G : Gm} {goal : Nat} (hg : goal < 2 ^ G.own.length) (h16 : G.own.length ≤ 16) : wonN G goal < 4294967296 := lv_32 hg h16 _
end Go.Proofs.Ytibcjkpfpiamkab
namespace Go.Proofs.Ytibcjkpfpiamkab
open Go.RowKit
set_option linter.unusedVariables false

theorem made_ints {w w1 : World} {n : Nat} (h : w1.ownsRow w.heap.size 3 1 (.slice (some ⟨w.heap.size, 0, none⟩) n n) n (madeCells (Value.int .i64 0).cells (n * 1)).toList) (hg : w.grownBy w1 none) :
    Below w.heap.size w w1 ∧ w1.heap[w.heap.size]? = some (.cells (rowI (fun _ => 0) n) 3 (0, 0)) := by
  refine ⟨(Below.refl _ _).grown hg (Nat.le_refl _) (by simp), ?_⟩
  have hcells : (madeCells (Value.int .i64 0).cells (n * 1)).toList = (rowI (fun _ => 0) n).toList := by
    rw [Nat.mul_one]
    refine (toList_madeCells_one (.int .i64 0) n).trans ?_
    unfold rowI rowV
    refine List.ext_getElem? fun j => ?_
    rcases Nat.lt_or_ge j n with h | h <;> simp [h]
  have h2 := own_full h
  rw [hcells] at h2
  simpa using h2
theorem two_new (w : World) (v0 v1 : Value) (t0 t1 : TypeId) : ∃ W, (w.alloc (.cells #[v0] t0)).alloc (.cells #[v1] t1) = W ∧ W.heap[w.heap.size]? = some (.cells #[v0] t0 (0, 0)) ∧
    W.heap[w.heap.size + 1]? = some (.cells #[v1] t1 (0, 0)) ∧ W.heap.size = w.heap.size + 2 ∧ Below w.heap.size w W := by
  have h0 := heap_alloc_new w (.cells #[v0] t0)
  have h1 := heap_alloc_new (w.alloc (.cells #[v0] t0)) (.cells #[v1] t1)
  have e : (w.alloc (.cells #[v0] t0)).heap.size = w.heap.size + 1 := by simp
  rw [e] at h1
  refine ⟨_, rfl, ?_, h1, by simp, ((Below.refl _ _).alloc (Nat.le_refl _) _).alloc (by simp) _⟩
  rw [((Below.refl _ (w.alloc (.cells #[v0] t0))).alloc (Nat.le_refl _) (.cells #[v1] t1)).block _ (by rw [e]; omega)]
  exact h0
/-- A cell of a box that the walk itself reads. -/
def rankIn (w : World) (br : Nat) : Nat := (intOf ((w.cell? ⟨br, 0, none⟩).getD undef)).toNat
set_option maxRecDepth 4000 in
set_option maxHeartbeats 3200000 in
theorem ranksOf_any (g : Gv) (goal : Nat) (w : World) (hr : RdG w w.heap.size g) (hf : Gfit g) (hE : gE g.G = 0) (hg : goal < 2 ^ g.own.length) :
    Calls Try.prog 20 #[g.v, .int .u32 goal] w (MadeI w (rkL g.G goal)) := by
  obtain ⟨W, hl⟩ := laid_of w g hr hf hE
  have LA := Lib.hid hl
  have hn16 := hl.le
  have hg16 : 2 ^ g.own.length ≤ 65536 := show 2 ^ g.own.length ≤ 2 ^ 16 from Nat.pow_le_pow_right (by omega) hn16
  have H := gE_zero hE
  have HF := Lib.hid (fun S w h (hS : S < 4294967296) => forced_any g 0 S w h hf hE hS)
  have HLt := Lib.hid (fun k => lv_lt (G := g.G) hg k)
  have HL32 := Lib.hid (fun k => lv_32 (G := g.G) hg H.le k)
  have HFlt := Lib.hid (fun r => fnd_lt (G := g.G) hg r)
  have HF0 := Lib.hid (fnd_zero H hg)
  have HFn := Lib.hid (fun r => (u32_andNot_nat (fcN g.G 0 (lv g.G goal (r + 1))) (lv g.G goal (r + 1)) (Nat.lt_trans (fcN_lt _ _ _) (show 2 ^ g.own.length < _ by omega)) (lv_32 hg H.le _)).trans (congrArg (fun (x : Nat) => (x : Int)) (fnd_next H hg r)))
  have HLF := Lib.hid (fun r => lv_fnd (G := g.G) hg H.le r)
  have HRn := Lib.hid (fun r p => rkR_next (G := g.G) hg H.le r p)
  have HMore := Lib.hid (fun r h => fnd_more (G := g.G) (r := r) hg h)
  have HEnd := Lib.hid (fun r h p => rkR_end (G := g.G) (r := r) hg H.le h p)
  have HR0 := Lib.hid (fun p => rkR_zero (G := g.G) (goal := goal) p)
  have HLen := Lib.hid (rkL_len g.G goal)
  have HRk := Lib.hid (show rkL g.G goal = (List.range g.own.length).map (rkI g.G goal) from rfl)
  have HLv0 := Lib.hid (show lv g.G goal 0 = 0 from rfl)
  have e : g.G.own = g.own := rfl
  rw [e] at HLt HFlt HMore HLen
  clear hr hf hE hl hg e H
  unfold Gv.v at HF ⊢
  generalize g.G = G at *
  obtain ⟨A0, c0, own, A1, c1, rs⟩ := g
  simp only at LA HF HLt HFlt HMore HLen HRk hn16 hg16 ⊢
  have hW := LA.out.hW
  have p0 := LA.out.p0
  have p1 := LA.out.p1
  obtain ⟨i0, hi, hz0, hz1, hz2⟩ := info_parts Try.eInt.hi
  obtain ⟨M, hM⟩ : ∃ M, W.heap.size = M := ⟨_, rfl⟩
  go_enter Try.func20, Try.ntmps20
  go_wp2_with ((at_make; refine wpList_make_full _ rfl (.tmp 13) (.tmp 13) 22 rfl W.heap.size 3 i0 (.int .i64 0) 1 Try.underlying22 hi hz0 hz1 .i64 .i64 _ _ own.length rfl rfl rfl rfl (by rw [hz2]; omega) (by simp only [maxLen]; omega) (Nat.le_refl _) ?_; intro w3 hown hgr; have MD := Lib.hid (made_ints hown hgr); clear hown hgr; obtain ⟨W3, hW3, k3, s3, b3⟩ := one_blk w3 #[.slice (some ⟨M, 0, none⟩) own.length own.length] 22; have c3 := (blk_cell (j := 0) k3)))
  rw [hM] at MD
  have hMw3 := lt_of_block MD.out.2
  have K3 := Lib.hid k3
  have M3 := Lib.hid ((b3.block _ hMw3).trans MD.out.2)
  have B3 := Lib.hid (MD.out.1.trans (b3.mono (by omega)))
  have N3 := Lib.hid (show M < w3.heap.size ∧ w.heap.size < M ∧ w3.heap.size < W3.heap.size from ⟨hMw3, by have := LA.out.hz; omega, s3⟩)
  clear hW hW3 k3 c3 b3 MD hMw3 s3 hi hz0 hz1 hz2
  obtain ⟨bs, hbs⟩ : ∃ bs, w3.heap.size = bs := ⟨_, rfl⟩
  rw [hbs] at K3 N3 ⊢
  clear hbs
  go_loopw [17] (fun i wr => ∃ k : Nat, k ≤ own.length ∧ i = .int .i64 k ∧ wr.heap[M]? = some (.cells (rowI (fun p => if p < k then -1 else 0) own.length) 3 (0, 0)) ∧ Only M W3 wr) (fun i _ => own.length - (intOf i).toNat)
  case atStart => exact ⟨0, by omega, rfl, M3.out, Only.refl _ _⟩
  case round =>
    obtain ⟨k, hk, rfl, hMr, ho⟩ := hrel
    have HM := Lib.hid hMr
    have O := Lib.hid ho
    have cs := Lib.hid ((ho.2.2.2.2 _ (show bs ≠ M by have := N3.out; omega)).trans K3.out)
    clear hMr ho
    have c5 : wr.cell? ⟨bs, 0, none⟩ = some (.slice (some ⟨M, 0, none⟩) own.length own.length) := by rw [blk_cell cs.out]; rfl
    by_cases hlt : k < own.length
    · have c2 : wr.cell? ⟨M, k, none⟩ = some (.int .i64 (if k < k then -1 else 0)) := by rw [blk_cell HM.out]; exact rowV_at hlt
      have hfree := blk_free HM.out k
      have HS := Lib.hid (blk_set HM.out k (.int .i64 (-1)))
      have OS := Lib.hid (O.out.set k (.int .i64 (-1)))
      generalize (if k < k then (-1 : Int) else 0) = old at c2
      go_wp2_with fail
      go_roundw
      case rel =>
        refine ⟨k + 1, by omega, by go_num, ?_, OS.out⟩
        rw [HS.out, rowI_set]
        rw [show rowI (fun j => if j = k then (-1 : Int) else if j < k then -1 else 0) own.length = rowI (fun p => if p < k + 1 then -1 else 0) own.length from rowI_congr fun j _ => by
          by_cases h1 : j = k
          · rw [if_pos h1, if_pos (by omega)]
          · rw [if_neg h1]
            by_cases h2 : j < k
            · rw [if_pos h2, if_pos (by omega)]
            · rw [if_neg h2, if_neg (by omega)]]
      case measure => simp [intOf]; omega
    · have hks : k = own.length := by omega
      subst hks
      obtain ⟨W5, hW5, k5, k6, s5, b5⟩ := two_new wr (.int .i64 0) (.int .u32 0) 3 41
      have hwr : wr.heap.size = W3.heap.size := O.out.2.2.2.1
      have hsz5 : bs < wr.heap.size := lt_of_block cs.out
      have hMz5 : M < wr.heap.size := lt_of_block HM.out
      have B5 := Lib.hid (B3.out.trans ((O.out.below (Nat.le_refl _)).trans (b5.mono (Nat.le_of_lt hMz5))))
      have ST0 := Lib.hid (show RkSt W5 wr.heap.size bs (wr.heap.size + 1) M own.length 0 (lv G goal 0) (rkR G goal 0) from ⟨k5, (b5.block _ hsz5).trans cs.out, by rw [HLv0.out]; exact k6, by
        rw [show rowI (rkR G goal 0) own.length = rowI (fun p => if p < own.length then -1 else 0) own.length from rowI_congr fun j hj => by rw [if_pos hj, HR0.out]]
        exact (b5.block _ hMz5).trans HM.out⟩)
      obtain ⟨br, hbr⟩ : ∃ br, wr.heap.size = br := ⟨_, rfl⟩
      have DD := Lib.hid (show Dis M br bs (br + 1) M from ⟨by omega, by omega, by omega, by omega, by have := N3.out; omega, by omega, by omega, by have := N3.out; omega, by omega, Nat.le_refl _⟩)
      rw [hbr] at ST0
      have HW5 := Lib.hid hW5
      clear c5 k5 k6 s5 b5 hwr hsz5 hMz5 hW5
      go_wp2_with fail
      rw [HW5.out]
      go_loopw [10] (fun F wr => ∃ r : Nat, F = .int .u32 (fnd G goal r : Nat) ∧ r ≤ own.length ∧ RkSt wr br bs (br + 1) M own.length r (lv G goal r) (rkR G goal r) ∧ Below M W wr) (fun _ wr => 17 - rankIn wr br)
      case atStart => exact ⟨0, by rw [HF0.out], by omega, ST0.out, B5.out⟩
      case round =>
        obtain ⟨r, rfl, hr, hst, hb⟩ := hrel
        have ST := Lib.hid hst
        have BW := Lib.hid hb
        clear hst hb
        by_cases hz : fnd G goal r = 0
        · have hb0 : (((fnd G goal r : Nat) : Int) != 0) = false := by rw [hz]; rfl
          have c5 : wr.cell? ⟨bs, 0, none⟩ = some (.slice (some ⟨M, 0, none⟩) own.length own.length) := by rw [blk_cell ST.out.hs]; rfl
          have HE := Lib.hid (show rowI (rkR G goal r) own.length = (ints (rkL G goal)).toArray by rw [HRk.out, ← rowI_ints]; exact rowI_congr fun j _ => HEnd.out r hz j)
          clear hz
          go_wp2_with fail
          go_ret
          refine ⟨_, own.length, by rw [HLen.out]; rfl, by rw [HLen.out]; exact Nat.le_refl _, fresh_at w (by have := N3.out; omega), Rd.of_block (by rw [← HE.out]; exact ST.out.hM), ?_⟩
          exact LA.out.b.trans (by have h := BW.out; rw [← hM] at h; exact h.mono LA.out.b.size)
        · have hb0 : (((fnd G goal r : Nat) : Int) != 0) = true := by
            rw [bne_iff_ne]
            intro h
            exact hz (by exact_mod_cast h)
          have hrn := HMore.out r hz
          have hMwr : M ≤ wr.heap.size := Nat.le_of_lt (lt_of_block ST.out.hM)
          have HGr := Lib.hid (grow_any (fnd G goal r) r (lv G goal r) own.length (rkR G goal r) br bs (br + 1) M M wr ST.out DD.out (HFlt.out r) hn16 (HL32.out r) (by omega) hMwr)
          have HNx := Lib.hid (show ∀ w', RkSt w' br bs (br + 1) M own.length (r + 1) (lv G goal r ||| fnd G goal r) (fun p => if (fnd G goal r).testBit p then (r : Int) else rkR G goal r p) → RkSt w' br bs (br + 1) M own.length (r + 1) (lv G goal (r + 1)) (rkR G goal (r + 1)) from fun w' h => by
            rw [HLF.out, show (fun p => if (fnd G goal r).testBit p then (r : Int) else rkR G goal r p) = rkR G goal (r + 1) from funext fun p => HRn.out r p] at h
            exact h)
          have hmeas : rankIn wr br = r := by
            unfold rankIn
            rw [blk_cell ST.out.hr]
            rfl
          have HMeas := Lib.hid hmeas
          have HFr := HFn.out r
          have HFNx := Lib.hid (fun w h => HF.out (lv G goal (r + 1)) w h (HL32.out (r + 1)))
          clear hz hmeas hMwr
          generalize fnd G goal r = Fr at *
          go_wp2_with (go_at_call 43; refine HGr.out.mono ?_; rintro e w6 ⟨rfl, hst6, hb6⟩; have ST6 := Lib.hid (HNx.out _ hst6); have B6 := Lib.hid (BW.out.trans hb6); clear hst6 hb6)
          have q0 := cell_keep p0 (by have h := B6.out; rw [← hM] at h; exact h) LA.out.hz
          have q1 := cell_keep p1 (by have h := B6.out; rw [← hM] at h; exact h) LA.out.hz
          have qx : w6.cell? ⟨br + 1, 0, none⟩ = some (.int .u32 (lv G goal (r + 1) : Nat)) := by rw [blk_cell ST6.out.hx]; rfl
          have g0 := fun d os => cell_regrown q0 d os
          have g1 := fun d os => cell_regrown q1 d os
          have gx := fun d os => cell_regrown qx d os
          have RG6 := Lib.hid (LA.out.rg.up (by have h := B6.out; rw [← hM] at h; exact h))
          refine wp_region_quiet_below (by kernel_rfl) (by kernel_rfl) ?_
          repeat (go_big_quiet_step (with_reducible exact Calls.regrown_of (HFNx.out _ (RG6.out.up (below_regrown _ _ _)))))
          refine wpQuiet_nil ?_
          intro _ hw'
          obtain ⟨⟨dq, osq⟩, hw''⟩ := hw'
          subst hw''
          have ST7 := Lib.hid (ST6.out.up (below_regrown w6 dq osq))
          have B7 := Lib.hid (B6.out.trans ((below_regrown w6 dq osq).mono (Nat.le_of_lt (lt_of_block ST6.out.hM))))
          go_wp2_with fail
          go_roundw
          case rel => exact ⟨r + 1, by first | rfl | rw [HFr], by omega, ST7.out, B7.out⟩
          case measure =>
            have h1 : rankIn (Go.Sort.grow (redrawn w6 dq) osq) br = r + 1 := by
              unfold rankIn
              rw [blk_cell ST7.out.hr]
              rfl
            rw [h1, HMeas.out]
            omega
end Go.Proofs.Ytibcjkpfpiamkab
namespace Go.Proofs.Ytibcjkpfpiamkab
open Go.RowKit
set_option linter.unusedVariables false

theorem num_won {G : Gm} {goal : Nat} (hg : goal < 2 ^ G.own.length) (h16 : G.own.length ≤ 16) : numN (rkL G goal) 16 = wonN G goal := by
  have h := num_rk (G := G) hg 16
  have e : ((16 : Nat) : Int) = 16 := rfl
  rw [e] at h
  rw [h]
  exact lv_end hg (by omega)
set_option maxRecDepth 4000 in
set_option maxHeartbeats 1600000 in
theorem wins_any (g : Gv) (goal : Nat) (w : World) (hr : RdG w w.heap.size g) (hf : Gfit g) (hE : gE g.G = 0) (hg : goal < 2 ^ g.own.length) :
    Calls Try.prog 22 #[g.v, .int .u32 goal] w fun e w' => e = .returned (.int .u32 (wonN g.G goal : Nat)) ∧ Below w.heap.size w w' := by
  obtain ⟨W, hl⟩ := laid_of w g hr hf hE
  have LA := Lib.hid hl
  have hn16 := hl.le
  have HB := Lib.hid (fun w h => ranksOf_any g goal w h hf hE hg)
  have HNum := Lib.hid (num_won (G := g.G) hg hn16)
  have hlen : (rkL g.G goal).length = g.own.length := rkL_len g.G goal
  clear hr hf hE hl hg
  unfold Gv.v at HB ⊢
  generalize g.G = G at *
  obtain ⟨A0, c0, own, A1, c1, rs⟩ := g
  simp only at LA HB hn16 hlen ⊢
  have hW := LA.out.hW
  have p0 := LA.out.p0
  have p1 := LA.out.p1
  have B0 := Lib.hid LA.out.b
  generalize wonN G goal = WN at *
  generalize rkL G goal = R at *
  have HN := Lib.hid (fun A c w h => numbered_any A c R 16 w h (by omega))
  rw [HNum.out] at HN
  clear hlen
  go_enter Try.func22, Try.ntmps22
  go_wp2_with fail
  refine (HB.out W LA.out.rg).mono ?_
  rintro e w2 ⟨A2, c2, rfl, hc2, hf2, hr2, hb2⟩
  have R2 := Lib.hid hr2
  have B2 := Lib.hid (B0.out.trans (hb2.mono B0.out.size))
  clear hr2 hb2 hf2
  go_wp2_with fail
  refine (HN.out A2 c2 w2 R2.out).mono ?_
  rintro e w' ⟨rfl, rfl⟩
  go_wp2_with fail
  go_ret
  exact ⟨rfl, B2.out⟩
/-- The smallest number of moves found so far. -/
def inr (rk m n : Int) : Int := if 0 ≤ rk ∧ m ≤ n then max rk m else -1
theorem inr_start {rk n : Int} : inr rk (n + 1) n = -1 := if_neg (by omega)
theorem inr_hit {rk m n : Int} (h : 0 ≤ rk ∧ rk ≤ m) (hm : m ≤ n) : m = inr rk m n := by
  unfold inr
  rw [if_pos ⟨h.1, hm⟩]
  omega
theorem inr_miss {rk m n : Int} (h : ¬ (0 ≤ rk ∧ rk ≤ m)) (hr : rk < n) : inr rk (m + 1) n = inr rk m n := by
  unfold inr
  by_cases h0 : 0 ≤ rk
  · by_cases h1 : m + 1 ≤ n
    · rw [if_pos ⟨h0, h1⟩, if_pos ⟨h0, by omega⟩]; omega
    · omega
  · rw [if_neg (by omega), if_neg (by omega)]
theorem inr_end {rk n : Int} (h : -1 ≤ rk) (hn : 0 ≤ n) : inr rk 0 n = rk := by
  unfold inr
  by_cases h0 : 0 ≤ rk
  · rw [if_pos ⟨h0, hn⟩]; omega
  · rw [if_neg (by omega)]; omega
end Go.Proofs.Ytibcjkpfpiamkab
namespace Go.Proofs.Ytibcjkpfpiamkab
open Go.RowKit
set_option linter.unusedVariables false

theorem ask_one (g : Gv) (A : Option Addr) (c : Nat) (L : List Int) (W : World) (hr : RdG W W.heap.size g) (hf : Gfit g) (hq : Rd W W.heap.size A (ints L)) (hn : L.length ≤ 9223372036854775807) :
    ∃ W2, W.alloc (.cells #[.slice A L.length c] 22) = W2 ∧ Below W.heap.size W W2 ∧
      Calls Try.prog 19 #[g.v, .slice (some ⟨W.heap.size, 0, none⟩) 1 1] W2 fun e w' => e = .returned (.int .i64 (askE g.G L)) ∧ Below W2.heap.size W2 w' := by
  have hb : Below W.heap.size W (W.alloc (.cells #[.slice A L.length c] 22)) := (Below.refl _ _).alloc (Nat.le_refl _) _
  have h1 : Rd (W.alloc (.cells #[.slice A L.length c] 22)) (W.alloc (.cells #[.slice A L.length c] 22)).heap.size (some ⟨W.heap.size, 0, none⟩) [(⟨A, c, L⟩ : Rw).v] := Rd.lit W [.slice A L.length c] 22
  have hR : RdR (W.alloc (.cells #[.slice A L.length c] 22)) (W.alloc (.cells #[.slice A L.length c] 22)).heap.size (some ⟨W.heap.size, 0, none⟩) [⟨A, c, L⟩] :=
    ⟨h1, fun r hr => by
      rw [List.mem_singleton] at hr
      subst hr
      exact hq.up hb⟩
  have h := check_any g (some ⟨W.heap.size, 0, none⟩) 1 [⟨A, c, L⟩] _ (hr.up hb) hf hR (fun r hr => by
    rw [List.mem_singleton] at hr
    subst hr
    exact hn) (by simp)
  rw [show [(⟨A, c, L⟩ : Rw)].map (·.l) = [L] from rfl, chkE_one] at h
  exact ⟨_, rfl, hb, h⟩
/-- The cells of the box of a game. -/
def InBox (w w' : World) (A0 : Option Addr) (c0 n0 : Nat) (A1 : Option Addr) (c1 n1 : Nat) : Prop := w'.cell? ⟨w.heap.size, 0, none⟩ = some (.slice A0 n0 c0) ∧ w'.cell? ⟨w.heap.size, 1, none⟩ = some (.slice A1 n1 c1)
def befL (G : Gm) (L : List Int) : List Int := if askE G L = 0 then lst (fcN G 0 (gatN L)) else []
end Go.Proofs.Ytibcjkpfpiamkab
namespace Go.Proofs.Ytibcjkpfpiamkab
open Go.RowKit
set_option linter.unusedVariables false

def ranL (G : Gm) (L : List Int) : List Int := if askE G L = 0 then rkL G (gatN L) else []
def winL (G : Gm) (L : List Int) : List Int := if askE G L = 0 then lst (wonN G (gatN L)) else []
def freL (G : Gm) (L : List Int) : List Int := if askE G L = 0 then lst (freeN G (gatN L)) else []
def witL (G : Gm) (L : List Int) (mv : Int) : List Int := if askE G L = 0 ∧ inW 0 100 mv = true then lst (lv G (gatN L) (mv.toNat + 1)) else []
def witE (G : Gm) (L : List Int) (mv : Int) : Int := if askE G L = 0 then (if inW 0 100 mv = true then 0 else 1) else askE G L
theorem free_eq {G : Gm} {goal : Nat} (hg : goal < 2 ^ G.own.length) (h16 : G.own.length ≤ 16) : (2 ^ G.own.length - 1) &&& (4294967295 - wonN G goal) = freeN G goal := by
  apply Nat.eq_of_testBit_eq
  intro j
  rw [Nat.testBit_and, Nat.testBit_two_pow_sub_one]
  rcases Nat.lt_or_ge j G.own.length with h | h
  · rw [not_at (won_32 hg h16) (show j < 32 by omega), free_at h]
    simp [h]
  · rw [high_bits (free_lt G goal) h]
    simp
    omega
theorem free_eq64 {G : Gm} {goal : Nat} (hg : goal < 2 ^ G.own.length) (h16 : G.own.length ≤ 16) : bits .andNot .i64 ((2 ^ G.own.length - 1 : Nat) : Int) ((wonN G goal : Nat) : Int) = ((freeN G goal : Nat) : Int) := by
  have h1 : 2 ^ G.own.length ≤ 2 ^ 16 := Nat.pow_le_pow_right (by omega) h16
  have h2 := won_32 (G := G) hg h16
  rw [i64_andNot_nat _ _ (by omega) (by omega)]
  congr 1
  apply Nat.eq_of_testBit_eq
  intro j
  rw [dif_test (by omega) (by omega), Nat.testBit_two_pow_sub_one]
  rcases Nat.lt_or_ge j G.own.length with h | h
  · rw [free_at h]
    simp [h]
  · rw [high_bits (free_lt G goal) h]
    simp
    omega
theorem free_eq32 {G : Gm} {goal : Nat} (hg : goal < 2 ^ G.own.length) (h16 : G.own.length ≤ 16) : bits .andNot .u32 ((2 ^ G.own.length - 1 : Nat) : Int) ((wonN G goal : Nat) : Int) = ((freeN G goal : Nat) : Int) := by
  have h1 : 2 ^ G.own.length ≤ 2 ^ 16 := Nat.pow_le_pow_right (by omega) h16
  rw [u32_andNot_nat _ _ (by omega) (won_32 hg h16), free_eq hg h16]
set_option maxRecDepth 4000 in
theorem isMoves_any (d : Int) (w : World) : Calls Try.prog 37 #[.int .i64 d] w fun e w' => e = .returned (.bool (inW 0 100 d)) ∧ w = w' := by
  by_cases h1 : 0 ≤ d
  · have e1 : decide (0 ≤ d) = true := by simpa using h1
    by_cases h2 : d ≤ 100
    · have e2 : decide (d ≤ 100) = true := by simpa using h2
      have HE := Lib.hid (show inW 0 100 d = true from inW_iff.2 ⟨h1, h2⟩)
      clear h1 h2
      go_enter Try.func37, Try.ntmps37
      go_wp2_with fail
      go_ret
      exact ⟨by rw [HE.out]; rfl, rfl⟩
    · have e2 : decide (d ≤ 100) = false := by simpa using h2
      have HE := Lib.hid (show inW 0 100 d = false from inW_no (.inr (by omega)))
      clear h1 h2
      go_enter Try.func37, Try.ntmps37
      go_wp2_with fail
      go_ret
      exact ⟨by rw [HE.out]; rfl, rfl⟩
  · have e1 : decide (0 ≤ d) = false := by simpa using h1
    have HE := Lib.hid (show inW 0 100 d = false from inW_no (.inl (by omega)))
    clear h1
    go_enter Try.func37, Try.ntmps37
    go_wp2_with fail
    go_ret
    exact ⟨by rw [HE.out]; rfl, rfl⟩
set_option maxRecDepth 4000 in
set_option maxHeartbeats 1600000 in
theorem Ranks_any (g : Gv) (A : Option Addr) (c : Nat) (L : List Int) (w : World) (hr : RdG w w.heap.size g) (hf : Gfit g) (hq : Rd w w.heap.size A (ints L)) (hn : L.length ≤ 9223372036854775807) :
    Calls Try.prog 4 #[g.v, .slice A L.length c] w (MadeIE w (ranL g.G L) (askE g.G L)) := by
  obtain ⟨W, hW, p0, p1, hz, hb, hr1⟩ := box_game w g 25 hr
  have R1 := Lib.hid (hq.up hb)
  have RG := Lib.hid hr1
  have B0 := Lib.hid hb
  obtain ⟨W2, hW2, hb2, HC⟩ := ask_one g A c L W hr1 hf R1.out hn
  have B2 := Lib.hid (hb.trans (hb2.mono hb.size))
  have HCh := Lib.hid HC
  have RG2 := Lib.hid (hr1.up hb2)
  have R2 := Lib.hid (R1.out.up hb2)
  have q0 := cell_keep p0 hb2 hz
  have q1 := cell_keep p1 hb2 hz
  have hz2 : w.heap.size < W2.heap.size := Nat.lt_of_lt_of_le hz hb2.size
  unfold ranL
  by_cases hE : askE g.G L = 0
  · obtain ⟨hG0, hs⟩ := askE_zero hE
    have h16 : g.G.own.length ≤ 16 := (gE_zero hG0).le
    have hg : gatN L < 2 ^ g.G.own.length := gat_lt hs (by omega)
    have hp16 : 2 ^ g.G.own.length ≤ 65536 := show 2 ^ g.G.own.length ≤ 2 ^ 16 from Nat.pow_le_pow_right (by omega) h16
    have HG := Lib.hid (fun w h => gather_any A c L g.own.length w h hn hs (show ((g.own.length : Nat) : Int) ≤ 31 by have e : g.G.own = g.own := rfl; rw [e] at h16; omega))
    rw [if_pos hE, hE]
    rw [hE] at HCh
    have HRk := Lib.hid (fun w h => ranksOf_any g (gatN L) w h hf hG0 hg)
    clear hr hf hq hn hb hr1 hb2 HC hE hG0 hs hg h16 hp16
    unfold Gv.v at HCh HRk ⊢
    generalize rkL g.G (gatN L) = X at *
    generalize g.G = G at *
    obtain ⟨A0, c0, own, A1, c1, rs⟩ := g
    simp only at hW p0 p1 q0 q1 HCh HRk ⊢
    go_enter Try.func4, Try.ntmps4
    go_wp2_with fail
    refine (HCh.out).mono ?_
    rintro e w3 ⟨rfl, hb⟩
    have B3 := Lib.hid (B2.out.trans (hb.mono B2.out.size))
    have RG3 := Lib.hid ((RG2.out.up hb).up (Below.refl w3.heap.size w3).drew)
    have R3 := Lib.hid (R2.out.up hb)
    have HK := Lib.hid (fun (w5 : World) (h : Below w3.heap.size w3 w5) => And.intro (cell_keep (cell_keep q0 hb hz2) h (Nat.lt_of_lt_of_le hz2 hb.size)) (cell_keep (cell_keep q1 hb hz2) h (Nat.lt_of_lt_of_le hz2 hb.size)))
    have HS0 := Lib.hid (HK.out w3.drew ((Below.refl _ w3).drew))
    have BD := Lib.hid ((Below.refl w3.heap.size w3).drew)
    clear hb q0 q1 p0 p1 hW hW2
    go_wp2_with fail
    go_region_held3 (fun w' => w'.cell? ⟨w.heap.size, 0, none⟩ = some (.slice A0 own.length c0) ∧ w'.cell? ⟨w.heap.size, 1, none⟩ = some (.slice A1 rs.length c1))
      (first | exact HS0.out | exact SK5.out)
      ((first
        | (go_at_call 21; refine (HG.out w3.drew R3.out).mono ?_; rintro e wq ⟨rfl, rfl⟩)
        | (go_at_call 20; refine (HRk.out w3.drew RG3.out).mono ?_; rintro e w5 ⟨A5, c5, rfl, hc5, hf5, hr5, hb⟩; have B5 := Lib.hid (BD.out.trans (hb.mono BD.out.size)); have SK5 := Lib.hid (HK.out w5 B5.out); have F5 := Lib.hid (hf5.le BD.out.size); have R5 := Lib.hid hr5; clear hb hf5 hr5)))
    go_wp2_with fail
    go_ret2
    exact ⟨A5, c5, rfl, hc5, F5.out.le B3.out.size, R5.out, B3.out.trans (B5.out.mono B3.out.size)⟩
  · rw [if_neg hE]
    generalize askE g.G L = E at *
    have hb1 : (E == 0) = false := by simpa using hE
    have hb2' : (E != 0) = true := by simpa using hE
    clear hr hf hq hn hb hr1 hb2 HC hE
    unfold Gv.v at HCh ⊢
    generalize g.G = G at *
    obtain ⟨A0, c0, own, A1, c1, rs⟩ := g
    simp only at hW p0 p1 q0 q1 HCh ⊢
    go_enter Try.func4, Try.ntmps4
    go_wp2_with fail
    refine (HCh.out).mono ?_
    rintro e w3 ⟨rfl, hb⟩
    have B3 := Lib.hid (B2.out.trans (hb.mono B2.out.size))
    clear hb
    go_wp2_with fail
    go_ret2
    exact ⟨none, 0, rfl, by decide, fresh_nil w, .inl rfl, B3.out⟩
set_option maxRecDepth 4000 in
set_option maxHeartbeats 1600000 in
theorem Wins_any (g : Gv) (A : Option Addr) (c : Nat) (L : List Int) (w : World) (hr : RdG w w.heap.size g) (hf : Gfit g) (hq : Rd w w.heap.size A (ints L)) (hn : L.length ≤ 9223372036854775807) :
    Calls Try.prog 7 #[g.v, .slice A L.length c] w (MadeIE w (winL g.G L) (askE g.G L)) := by
  obtain ⟨W, hW, p0, p1, hz, hb, hr1⟩ := box_game w g 25 hr
  have R1 := Lib.hid (hq.up hb)
  have RG := Lib.hid hr1
  have B0 := Lib.hid hb
  obtain ⟨W2, hW2, hb2, HC⟩ := ask_one g A c L W hr1 hf R1.out hn
  have B2 := Lib.hid (hb.trans (hb2.mono hb.size))
  have HCh := Lib.hid HC
  have RG2 := Lib.hid (hr1.up hb2)
  have R2 := Lib.hid (R1.out.up hb2)
  have q0 := cell_keep p0 hb2 hz
  have q1 := cell_keep p1 hb2 hz
  have hz2 : w.heap.size < W2.heap.size := Nat.lt_of_lt_of_le hz hb2.size
  unfold winL
  by_cases hE : askE g.G L = 0
  · obtain ⟨hG0, hs⟩ := askE_zero hE
    have h16 : g.G.own.length ≤ 16 := (gE_zero hG0).le
    have hg : gatN L < 2 ^ g.G.own.length := gat_lt hs (by omega)
    have hp16 : 2 ^ g.G.own.length ≤ 65536 := show 2 ^ g.G.own.length ≤ 2 ^ 16 from Nat.pow_le_pow_right (by omega) h16
    have HG := Lib.hid (fun w h => gather_any A c L g.own.length w h hn hs (show ((g.own.length : Nat) : Int) ≤ 31 by have e : g.G.own = g.own := rfl; rw [e] at h16; omega))
    rw [if_pos hE, hE]
    rw [hE] at HCh
    have HWn := Lib.hid (fun w h => wins_any g (gatN L) w h hf hG0 hg)
    have hx : wonN g.G (gatN L) < 65536 := Nat.lt_of_lt_of_le (lv_lt hg _) hp16
    have HL := Lib.hid (fun w => list_any (wonN g.G (gatN L)) w (by omega))
    clear hr hf hq hn hb hr1 hb2 HC hE hG0 hs hg h16 hp16 hx
    unfold Gv.v at HCh HWn ⊢
    generalize wonN g.G (gatN L) = X at *
    generalize g.G = G at *
    obtain ⟨A0, c0, own, A1, c1, rs⟩ := g
    simp only at hW p0 p1 q0 q1 HCh HWn ⊢
    go_enter Try.func7, Try.ntmps7
    go_wp2_with fail
    refine (HCh.out).mono ?_
    rintro e w3 ⟨rfl, hb⟩
    have B3 := Lib.hid (B2.out.trans (hb.mono B2.out.size))
    have RG3 := Lib.hid ((RG2.out.up hb).up (Below.refl w3.heap.size w3).drew)
    have R3 := Lib.hid (R2.out.up hb)
    have HK := Lib.hid (fun (w5 : World) (h : Below w3.heap.size w3 w5) => And.intro (cell_keep (cell_keep q0 hb hz2) h (Nat.lt_of_lt_of_le hz2 hb.size)) (cell_keep (cell_keep q1 hb hz2) h (Nat.lt_of_lt_of_le hz2 hb.size)))
    have HS0 := Lib.hid (HK.out w3.drew ((Below.refl _ w3).drew))
    have BD := Lib.hid ((Below.refl w3.heap.size w3).drew)
    clear hb q0 q1 p0 p1 hW hW2
    go_wp2_with fail
    go_region_held3 (fun w' => w'.cell? ⟨w.heap.size, 0, none⟩ = some (.slice A0 own.length c0) ∧ w'.cell? ⟨w.heap.size, 1, none⟩ = some (.slice A1 rs.length c1))
      (first | exact HS0.out | exact SK5.out | exact SK6.out)
      ((first
        | (go_at_call 21; refine (HG.out w3.drew R3.out).mono ?_; rintro e wq ⟨rfl, rfl⟩)
        | (go_at_call 22; refine (HWn.out w3.drew RG3.out).mono ?_; rintro e w5 ⟨rfl, hb⟩; have B5 := Lib.hid (BD.out.trans (hb.mono BD.out.size)); have SK5 := Lib.hid (HK.out w5 B5.out); have RG5 := Lib.hid (RG3.out.up hb); have R5 := Lib.hid ((R3.out.up BD.out).up hb); clear hb)
        | (go_at_call 23; refine (HL.out w5).mono ?_; rintro e w6 ⟨A6, c6, rfl, hc6, hf6, hr6, hb⟩; have B6 := Lib.hid (B5.out.trans (hb.mono B5.out.size)); have SK6 := Lib.hid (HK.out w6 B6.out); have F6 := Lib.hid (hf6.le B5.out.size); have R6 := Lib.hid hr6; clear hb hf6 hr6)))
    go_wp2_with fail
    go_ret2
    exact ⟨A6, c6, rfl, hc6, F6.out.le B3.out.size, R6.out, B3.out.trans (B6.out.mono B3.out.size)⟩
  · rw [if_neg hE]
    generalize askE g.G L = E at *
    have hb1 : (E == 0) = false := by simpa using hE
    have hb2' : (E != 0) = true := by simpa using hE
    clear hr hf hq hn hb hr1 hb2 HC hE
    unfold Gv.v at HCh ⊢
    generalize g.G = G at *
    obtain ⟨A0, c0, own, A1, c1, rs⟩ := g
    simp only at hW p0 p1 q0 q1 HCh ⊢
    go_enter Try.func7, Try.ntmps7
    go_wp2_with fail
    refine (HCh.out).mono ?_
    rintro e w3 ⟨rfl, hb⟩
    have B3 := Lib.hid (B2.out.trans (hb.mono B2.out.size))
    clear hb
    go_wp2_with fail
    go_ret2
    exact ⟨none, 0, rfl, by decide, fresh_nil w, .inl rfl, B3.out⟩
set_option maxRecDepth 4000 in
set_option maxHeartbeats 1600000 in
theorem Free_any (g : Gv) (A : Option Addr) (c : Nat) (L : List Int) (w : World) (hr : RdG w w.heap.size g) (hf : Gfit g) (hq : Rd w w.heap.size A (ints L)) (hn : L.length ≤ 9223372036854775807) :
    Calls Try.prog 8 #[g.v, .slice A L.length c] w (MadeIE w (freL g.G L) (askE g.G L)) := by
  obtain ⟨W, hW, p0, p1, hz, hb, hr1⟩ := box_game w g 25 hr
  have R1 := Lib.hid (hq.up hb)
  have RG := Lib.hid hr1
  have B0 := Lib.hid hb
  obtain ⟨W2, hW2, hb2, HC⟩ := ask_one g A c L W hr1 hf R1.out hn
  have B2 := Lib.hid (hb.trans (hb2.mono hb.size))
  have HCh := Lib.hid HC
  have RG2 := Lib.hid (hr1.up hb2)
  have R2 := Lib.hid (R1.out.up hb2)
  have q0 := cell_keep p0 hb2 hz
  have q1 := cell_keep p1 hb2 hz
  have hz2 : w.heap.size < W2.heap.size := Nat.lt_of_lt_of_le hz hb2.size
  unfold freL
  by_cases hE : askE g.G L = 0
  · obtain ⟨hG0, hs⟩ := askE_zero hE
    have h16 : g.G.own.length ≤ 16 := (gE_zero hG0).le
    have hg : gatN L < 2 ^ g.G.own.length := gat_lt hs (by omega)
    have hp16 : 2 ^ g.G.own.length ≤ 65536 := show 2 ^ g.G.own.length ≤ 2 ^ 16 from Nat.pow_le_pow_right (by omega) h16
    have HG := Lib.hid (fun w h => gather_any A c L g.own.length w h hn hs (show ((g.own.length : Nat) : Int) ≤ 31 by have e : g.G.own = g.own := rfl; rw [e] at h16; omega))
    rw [if_pos hE, hE]
    rw [hE] at HCh
    have HEv := Lib.hid (fun w h => every_any g w h hf hG0)
    have HAN := free_eq32 hg h16
    rw [show g.G.own = g.own from rfl] at HAN
    have HWn := Lib.hid (fun w h => wins_any g (gatN L) w h hf hG0 hg)
    have hx : freeN g.G (gatN L) < 65536 := Nat.lt_of_lt_of_le (free_lt _ _) hp16
    have HL := Lib.hid (fun w => list_any (freeN g.G (gatN L)) w (by omega))
    clear hr hf hq hn hb hr1 hb2 HC hE hG0 hs hg h16 hp16 hx
    unfold Gv.v at HCh HWn HEv ⊢
    generalize freeN g.G (gatN L) = X at *
    generalize wonN g.G (gatN L) = Y at *
    generalize 2 ^ g.own.length - 1 = V at *
    generalize g.G = G at *
    obtain ⟨A0, c0, own, A1, c1, rs⟩ := g
    simp only at hW p0 p1 q0 q1 HCh HWn HEv ⊢
    go_enter Try.func8, Try.ntmps8
    go_wp2_with fail
    refine (HCh.out).mono ?_
    rintro e w3 ⟨rfl, hb⟩
    have B3 := Lib.hid (B2.out.trans (hb.mono B2.out.size))
    have RG3 := Lib.hid ((RG2.out.up hb).up (Below.refl w3.heap.size w3).drew)
    have R3 := Lib.hid (R2.out.up hb)
    have HK := Lib.hid (fun (w5 : World) (h : Below w3.heap.size w3 w5) => And.intro (cell_keep (cell_keep q0 hb hz2) h (Nat.lt_of_lt_of_le hz2 hb.size)) (cell_keep (cell_keep q1 hb hz2) h (Nat.lt_of_lt_of_le hz2 hb.size)))
    have HS0 := Lib.hid (HK.out w3.drew ((Below.refl _ w3).drew))
    have BD := Lib.hid ((Below.refl w3.heap.size w3).drew)
    clear hb q0 q1 p0 p1 hW hW2
    go_wp2_with fail
    go_region_held3 (fun w' => w'.cell? ⟨w.heap.size, 0, none⟩ = some (.slice A0 own.length c0) ∧ w'.cell? ⟨w.heap.size, 1, none⟩ = some (.slice A1 rs.length c1))
      (first | exact HS0.out | exact SK5.out | exact SK6.out | exact SK7.out)
      ((first
        | (go_at_call 24; refine (HEv.out w3.drew RG3.out).mono ?_; rintro e w5 ⟨rfl, hb⟩; have B5 := Lib.hid (BD.out.trans (hb.mono BD.out.size)); have SK5 := Lib.hid (HK.out w5 B5.out); have RG5 := Lib.hid (RG3.out.up hb); have R5 := Lib.hid ((R3.out.up BD.out).up hb); clear hb)
        | (go_at_call 21; refine (HG.out w5 R5.out).mono ?_; rintro e wq ⟨rfl, rfl⟩)
        | (go_at_call 22; refine (HWn.out w5 RG5.out).mono ?_; rintro e w6 ⟨rfl, hb⟩; have B6 := Lib.hid (B5.out.trans (hb.mono B5.out.size)); have SK6 := Lib.hid (HK.out w6 B6.out); have RG6 := Lib.hid (RG5.out.up hb); have R6 := Lib.hid ((R5.out.up (Below.refl _ _)).up hb); clear hb)
        | (go_at_call 23; refine (HL.out w6).mono ?_; rintro e w7 ⟨A7, c7, rfl, hc7, hf7, hr7, hb⟩; have B7 := Lib.hid (B6.out.trans (hb.mono B6.out.size)); have SK7 := Lib.hid (HK.out w7 B7.out); have F7 := Lib.hid (hf7.le B6.out.size); have R7 := Lib.hid hr7; clear hb hf7 hr7)))
    go_wp2_with fail
    go_ret2
    exact ⟨A7, c7, rfl, hc7, F7.out.le B3.out.size, R7.out, B3.out.trans (B7.out.mono B3.out.size)⟩
  · rw [if_neg hE]
    generalize askE g.G L = E at *
    have hb1 : (E == 0) = false := by simpa using hE
    have hb2' : (E != 0) = true := by simpa using hE
    clear hr hf hq hn hb hr1 hb2 HC hE
    unfold Gv.v at HCh ⊢
    generalize g.G = G at *
    obtain ⟨A0, c0, own, A1, c1, rs⟩ := g
    simp only at hW p0 p1 q0 q1 HCh ⊢
    go_enter Try.func8, Try.ntmps8
    go_wp2_with fail
    refine (HCh.out).mono ?_
    rintro e w3 ⟨rfl, hb⟩
    have B3 := Lib.hid (B2.out.trans (hb.mono B2.out.size))
    clear hb
    go_wp2_with fail
    go_ret2
    exact ⟨none, 0, rfl, by decide, fresh_nil w, .inl rfl, B3.out⟩
set_option maxRecDepth 4000 in
set_option maxHeartbeats 1600000 in
theorem Within_any (g : Gv) (A : Option Addr) (c : Nat) (L : List Int) (mv : Int) (w : World) (hr : RdG w w.heap.size g) (hf : Gfit g) (hq : Rd w w.heap.size A (ints L)) (hn : L.length ≤ 9223372036854775807) :
    Calls Try.prog 18 #[g.v, .slice A L.length c, .int .i64 mv] w (MadeIE w (witL g.G L mv) (witE g.G L mv)) := by
  obtain ⟨W, hW, p0, p1, hz, hb, hr1⟩ := box_game w g 25 hr
  have R1 := Lib.hid (hq.up hb)
  have RG := Lib.hid hr1
  have B0 := Lib.hid hb
  obtain ⟨W2, hW2, hb2, HC⟩ := ask_one g A c L W hr1 hf R1.out hn
  have B2 := Lib.hid (hb.trans (hb2.mono hb.size))
  have HCh := Lib.hid HC
  have RG2 := Lib.hid (hr1.up hb2)
  have R2 := Lib.hid (R1.out.up hb2)
  have q0 := cell_keep p0 hb2 hz
  have q1 := cell_keep p1 hb2 hz
  have hz2 : w.heap.size < W2.heap.size := Nat.lt_of_lt_of_le hz hb2.size
  unfold witL
  unfold witE
  by_cases hE : askE g.G L = 0
  · obtain ⟨hG0, hs⟩ := askE_zero hE
    have h16 : g.G.own.length ≤ 16 := (gE_zero hG0).le
    have hg : gatN L < 2 ^ g.G.own.length := gat_lt hs (by omega)
    have hp16 : 2 ^ g.G.own.length ≤ 65536 := show 2 ^ g.G.own.length ≤ 2 ^ 16 from Nat.pow_le_pow_right (by omega) h16
    have HG := Lib.hid (fun w h => gather_any A c L g.own.length w h hn hs (show ((g.own.length : Nat) : Int) ≤ 31 by have e : g.G.own = g.own := rfl; rw [e] at h16; omega))
    rw [hE] at HCh
    by_cases hm : inW 0 100 mv = true
    · rw [if_pos (And.intro hE hm), if_pos hE, if_pos hm]
      have HMv := Lib.hid (fun w => isMoves_any mv w)
      rw [hm] at HMv
      rw [inW_iff] at hm
      obtain ⟨m, rfl⟩ := Int.eq_ofNat_of_zero_le hm.1
      rw [Int.toNat_natCast]
      have HRk := Lib.hid (fun w h => ranksOf_any g (gatN L) w h hf hG0 hg)
      have hx : lv g.G (gatN L) (m + 1) < 65536 := Nat.lt_of_lt_of_le (lv_lt hg _) hp16
      have HL := Lib.hid (fun w => list_any (lv g.G (gatN L) (m + 1)) w (by omega))
      have HNm := Lib.hid (fun A c w h => numbered_any A c (rkL g.G (gatN L)) m w h (by rw [rkL_len]; exact h16))
      rw [num_rk hg] at HNm
      clear hr hf hq hn hb hr1 hb2 HC hE hG0 hs hg h16 hp16 hx hm
      unfold Gv.v at HCh HRk ⊢
      generalize rkL g.G (gatN L) = Rk at *
      generalize lv g.G (gatN L) (m + 1) = X at *
      generalize g.G = G at *
      obtain ⟨A0, c0, own, A1, c1, rs⟩ := g
      simp only at hW p0 p1 q0 q1 HCh HRk ⊢
      go_enter Try.func18, Try.ntmps18
      go_wp2_with fail
      refine (HCh.out).mono ?_
      rintro e w3 ⟨rfl, hb⟩
      have B3 := Lib.hid (B2.out.trans (hb.mono B2.out.size))
      have RG3 := Lib.hid ((RG2.out.up hb).up (Below.refl w3.heap.size w3).drew)
      have R3 := Lib.hid (R2.out.up hb)
      have HK := Lib.hid (fun (w5 : World) (h : Below w3.heap.size w3 w5) => And.intro (cell_keep (cell_keep q0 hb hz2) h (Nat.lt_of_lt_of_le hz2 hb.size)) (cell_keep (cell_keep q1 hb hz2) h (Nat.lt_of_lt_of_le hz2 hb.size)))
      have HS0 := Lib.hid (HK.out w3.drew ((Below.refl _ w3).drew))
      have BD := Lib.hid ((Below.refl w3.heap.size w3).drew)
      clear hb q0 q1 p0 p1 hW hW2
      go_wp2_with fail
      refine (HMv.out w3).mono ?_
      rintro e w' ⟨rfl, rfl⟩
      go_wp2_with fail
      go_region_held3 (fun w' => w'.cell? ⟨w.heap.size, 0, none⟩ = some (.slice A0 own.length c0) ∧ w'.cell? ⟨w.heap.size, 1, none⟩ = some (.slice A1 rs.length c1))
        (first | exact HS0.out | exact SK5.out | exact SK6.out)
        ((first
          | (go_at_call 21; refine (HG.out w3.drew R3.out).mono ?_; rintro e wq ⟨rfl, rfl⟩)
          | (go_at_call 20; refine (HRk.out w3.drew RG3.out).mono ?_; rintro e w5 ⟨A5, c5, rfl, hc5, hf5, hr5, hb⟩; have B5 := Lib.hid (BD.out.trans (hb.mono BD.out.size)); have SK5 := Lib.hid (HK.out w5 B5.out); have F5 := Lib.hid (hf5.le BD.out.size); have R5 := Lib.hid hr5; clear hb hf5 hr5)
          | (go_at_call 28; refine (HNm.out A5 c5 w5 R5.out).mono ?_; rintro e wq ⟨rfl, rfl⟩)
          | (go_at_call 23; refine (HL.out w5).mono ?_; rintro e w6 ⟨A6, c6, rfl, hc6, hf6, hr6, hb⟩; have B6 := Lib.hid (B5.out.trans (hb.mono B5.out.size)); have SK6 := Lib.hid (HK.out w6 B6.out); have F6 := Lib.hid (hf6.le B5.out.size); have R6 := Lib.hid hr6; clear hb hf6 hr6)))
      go_wp2_with fail
      go_ret2
      exact ⟨A6, c6, rfl, hc6, F6.out.le B3.out.size, R6.out, B3.out.trans (B6.out.mono B3.out.size)⟩
    · rw [if_neg (fun h => hm h.2), if_pos hE, if_neg hm]
      have HMv := Lib.hid (fun w => isMoves_any mv w)
      rw [show inW 0 100 mv = false from by simpa using hm] at HMv
      clear hr hf hq hn hb hr1 hb2 HC hE hG0 hs hg h16 hp16 hm HG
      unfold Gv.v at HCh ⊢
      generalize g.G = G at *
      obtain ⟨A0, c0, own, A1, c1, rs⟩ := g
      simp only at hW p0 p1 q0 q1 HCh ⊢
      go_enter Try.func18, Try.ntmps18
      go_wp2_with fail
      refine (HCh.out).mono ?_
      rintro e w3 ⟨rfl, hb⟩
      have B3 := Lib.hid (B2.out.trans (hb.mono B2.out.size))
      clear hb
      go_wp2_with fail
      refine (HMv.out w3).mono ?_
      rintro e w' ⟨rfl, rfl⟩
      go_wp2_with fail
      go_ret2
      exact ⟨none, 0, rfl, by decide, fresh_nil w, .inl rfl, B3.out⟩
  · rw [if_neg (fun h => hE h.1), if_neg hE]
    generalize askE g.G L = E at *
    have hb1 : (E == 0) = false := by simpa using hE
    have hb2' : (E != 0) = true := by simpa using hE
    clear hr hf hq hn hb hr1 hb2 HC hE
    unfold Gv.v at HCh ⊢
    generalize g.G = G at *
    obtain ⟨A0, c0, own, A1, c1, rs⟩ := g
    simp only at hW p0 p1 q0 q1 HCh ⊢
    go_enter Try.func18, Try.ntmps18
    go_wp2_with fail
    refine (HCh.out).mono ?_
    rintro e w3 ⟨rfl, hb⟩
    have B3 := Lib.hid (B2.out.trans (hb.mono B2.out.size))
    clear hb
    go_wp2_with fail
    go_ret2
    exact ⟨none, 0, rfl, by decide, fresh_nil w, .inl rfl, B3.out⟩
end Go.Proofs.Ytibcjkpfpiamkab

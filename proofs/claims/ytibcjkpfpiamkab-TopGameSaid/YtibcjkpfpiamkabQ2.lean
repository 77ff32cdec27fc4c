/-
  Texts merged into one (Gme, Lb3, Lu1, Lu2, Gen, Lu3, Lu4, Lu5): contracts of the functions of package lure, what is reckoned of games. Conditions: as each says.
-/
import Derived.Test.YtibcjkpfpiamkabQ1
import Derived.Test.YtibcjkpfpiamkabChecked
import Derived.Deep.QuietTactic
import Derived.BigQuiet
namespace Go.Proofs.Ytibcjkpfpiamkab
open Go.RowKit
set_option linter.unusedVariables false

/-- A row of moves as it lies in memory. -/
structure Rw where
  A : Option Addr
  c : Nat
  l : List Int
def Rw.v (r : Rw) : Value := .slice r.A r.l.length r.c
def Rw.cells (r : Rw) : List Value := [r.v]
theorem rwLen (r : Rw) : (Rw.cells r).length = 1 := rfl
theorem rw_flat (rs : List Rw) : rs.flatMap Rw.cells = rs.map Rw.v := by
  induction rs with
  | nil => rfl
  | cons r rs ih => rw [List.flatMap_cons, ih]; rfl
def Rw.good (w : World) (r : Rw) : Prop := r.l.length ≤ r.c ∧ r.c ≤ maxLen ∧ Rd w w.heap.size r.A (ints r.l)
/-- Rows that lie in memory. -/
def RdR (w : World) (B : Nat) (A : Option Addr) (rs : List Rw) : Prop := Rd w B A (rs.map Rw.v) ∧ ∀ r ∈ rs, Rd w B r.A (ints r.l)
theorem RdR.more {w : World} {B B' : Nat} {A : Option Addr} {rs : List Rw} (h : RdR w B A rs) (hB : B ≤ B') : RdR w B' A rs := ⟨h.1.more hB, fun r hr => (h.2 r hr).more hB⟩
theorem RdR.below {w w' : World} {B B' : Nat} {A : Option Addr} {rs : List Rw} (h : RdR w B A rs) (hb : Below B' w w') (hB : B ≤ B') : RdR w' B A rs := ⟨h.1.below hb hB, fun r hr => (h.2 r hr).below hb hB⟩
theorem RdR.up {w w' : World} {A : Option Addr} {rs : List Rw} (h : RdR w w.heap.size A rs) (hb : Below w.heap.size w w') : RdR w' w'.heap.size A rs := (h.below hb (Nat.le_refl _)).more hb.size
theorem Rd.up {w w' : World} {A : Option Addr} {xs : List Value} (h : Rd w w.heap.size A xs) (hb : Below w.heap.size w w') : Rd w' w'.heap.size A xs := (h.below hb (Nat.le_refl _)).more hb.size
theorem RdR.row {w : World} {B : Nat} {A : Option Addr} {rs : List Rw} (h : RdR w B A rs) (k : Nat) (hk : k < rs.length) :
    ∃ b o A' c l, A = some ⟨b, o, none⟩ ∧ Hid (rs[k]? = some ⟨A', c, l⟩) ∧ w.cell? ⟨b, o + k, none⟩ = some (.slice A' l.length c) ∧ Hid (Rd w B A' (ints l)) := by
  have hx : rs[k]? = some rs[k] := List.getElem?_eq_getElem hk
  obtain ⟨b, o, ha, _, hc⟩ := h.1.at_ (k := k) (u := rs[k].v) (by rw [List.getElem?_map, hx]; rfl)
  have hm := h.2 _ (List.getElem_mem hk)
  generalize rs[k] = r at *
  obtain ⟨A', c, l⟩ := r
  exact ⟨b, o, A', c, l, ha, Lib.hid hx, hc, Lib.hid hm⟩
/-- A game as it lies in memory. -/
structure Gv where
  A0 : Option Addr
  c0 : Nat
  own : List Int
  A1 : Option Addr
  c1 : Nat
  rs : List Rw
def Gv.cells (g : Gv) : List Value := [.slice g.A0 g.own.length g.c0, .slice g.A1 g.rs.length g.c1]
def Gv.v (g : Gv) : Value := .agg #[.slice g.A0 g.own.length g.c0, .slice g.A1 g.rs.length g.c1]
def Gv.G (g : Gv) : Gm := ⟨g.own, g.rs.map (·.l)⟩
structure RdG (w : World) (B : Nat) (g : Gv) : Prop where
  o : Rd w B g.A0 (ints g.own)
  r : RdR w B g.A1 g.rs
theorem RdG.more {w : World} {B B' : Nat} {g : Gv} (h : RdG w B g) (hB : B ≤ B') : RdG w B' g := ⟨h.o.more hB, h.r.more hB⟩
theorem RdG.below {w w' : World} {B B' : Nat} {g : Gv} (h : RdG w B g) (hb : Below B' w w') (hB : B ≤ B') : RdG w' B g := ⟨h.o.below hb hB, h.r.below hb hB⟩
theorem RdG.up {w w' : World} {g : Gv} (h : RdG w w.heap.size g) (hb : Below w.heap.size w w') : RdG w' w'.heap.size g := (h.below hb (Nat.le_refl _)).more hb.size
theorem row_of {g : Gv} {k c : Nat} {A : Option Addr} {l : List Int} (h : g.rs[k]? = some ⟨A, c, l⟩) : g.G.row k = l := row_at (by show (g.rs.map (·.l))[k]? = _; rw [List.getElem?_map, h]; rfl)
/-- What is known of the sizes of a game that came in. -/
structure Gfit (g : Gv) : Prop where
  n0 : g.own.length ≤ g.c0
  m0 : g.c0 ≤ maxLen
  n1 : g.rs.length ≤ g.c1
  m1 : g.c1 ≤ maxLen
  rs : ∀ r ∈ g.rs, r.l.length ≤ r.c ∧ r.c ≤ maxLen

/-! ### Opening -/
open Go.ChangeShapes Go.WideShapes Go.Deep Go.ChangeAt
section
variable {H : Type} {enc : TypeId × Value → H} {P : Program} {w : World}
theorem slice_of {α : Type} (cells : α → List Value) (Good : α → Prop) {t e : TypeId} {C n : Nat} {cs : List Value} {y : DataW H × List MemPlace} (ht : P.underlying t = some (.slice e)) (hC : P.cellsOf e = C) (hpos : 0 < C) (hlen : ∀ x, (cells x).length = C)
    (hrow : ∀ (n : Nat) (cs : List Value) (y : DataW H × List MemPlace), DataW.trod enc P w 0 (fun _ => true) true n e cs = some y → ∃ x, cs = cells x ∧ Good x)
    (hf : DataW.trod enc P w 0 (fun _ => true) true n t cs = some y) :
    ∃ (A : Option Addr) (c : Nat) (l : List α), cs = [.slice A (l.length : Nat) c] ∧ l.length ≤ c ∧ c ≤ maxLen ∧ Rd w w.heap.size A (l.flatMap cells) ∧ ∀ x ∈ l, Good x := by
  rcases open_slice ht hf with ⟨hcs, _⟩ | ⟨a, len', cap', m, n, D, Pl, hcs, _, hl, hm, hmm, _, hi⟩
  · exact ⟨none, 0, [], hcs, by simp, by simp [maxLen], .inl rfl, by simp⟩
  · simp only [if_true] at hmm
    have key : ∀ i, i < len' → ∃ x, Good x ∧ ∀ j u, (cells x)[j]? = some u → w.cell? (a.add (i * C + j)) = some u := by
      intro i him
      obtain ⟨cs', hc, ht'⟩ := hi i (by omega)
      rw [hC] at hc
      obtain ⟨_, hcl, hat⟩ := World.cells?_some hc
      obtain ⟨x, hx, hg⟩ := hrow _ _ _ ht'
      refine ⟨x, hg, fun j u hu => ?_⟩
      have hj : j < C := by rw [← hlen x]; exact (List.getElem?_eq_some_iff.1 hu).1
      rw [← Go.Deep.add_add, hat j hj, hx]
      exact hu
    obtain ⟨l, hll, hlr⟩ := list_of len' key
    refine ⟨some a, cap', l, by rw [hll]; exact hcs, by omega, hm, ?_, fun x hx => by
      obtain ⟨i, hi, he⟩ := List.getElem_of_mem hx
      exact (hlr i x (by rw [← he]; exact List.getElem?_eq_getElem hi)).1⟩
    by_cases h0 : l = []
    · subst h0
      exact .inl rfl
    · have hcell : ∀ i u, (l.flatMap cells)[i]? = some u → w.cell? (a.add i) = some u := by
        intro i u hu
        obtain ⟨k, x, j, hx, hj, he, hc⟩ := flat_inv hlen hu
        rw [he]
        exact (hlr k x hx).2 j u hc
      obtain ⟨b, off, spot⟩ := a
      have hfl : 0 < (l.flatMap cells).length := by
        rw [flat_length hlen]
        exact Nat.mul_pos (List.length_pos_iff.2 h0) hpos
      have hc0 := hcell 0 _ (List.getElem?_eq_getElem hfl)
      have hspot : spot = none := by simpa [Addr.add] using World.cell?_spot hc0
      subst hspot
      have hlt : b < w.heap.size := World.block_lt_of_cell? w _ (by simpa [Addr.add] using hc0)
      exact .inr ⟨b, off, rfl, hlt, fun i u hu => by rw [← Go.WideShapes.add_plain]; exact hcell i u hu⟩
theorem int_of {t e : TypeId} {n : Nat} {cs : List Value} {y : DataW H × List MemPlace} (ht : P.underlying t = some (.slice e)) (he : P.underlying e = some (.int .i64)) (hc : P.cellsOf e = 1) (hf : DataW.trod enc P w 0 (fun _ => true) true n t cs = some y) :
    ∃ A c l, cs = [.slice A (l.length : Nat) c] ∧ l.length ≤ c ∧ c ≤ maxLen ∧ Rd w w.heap.size A (ints l) := by
  rcases open_ints ht he hc hf with ⟨hcs, _⟩ | ⟨a, len', cap', zs, hcs, _, hl, hm, hz, _, hcell, hw⟩
  · exact ⟨none, 0, [], hcs, by simp, by simp [maxLen], .inl rfl⟩
  · simp only [if_true] at hz
    have e : (zs.take len').length = len' := by simp; omega
    exact ⟨some a, cap', zs.take len', by rw [e]; exact hcs, by omega, hm, rd_of_cells (by omega) hcell⟩
theorem gm_of {e ei ti tm : TypeId} {f0 f1 : Field} {n : Nat} {cs : List Value} {y : DataW H × List MemPlace} (he : P.underlying e = some (.struct #[f0, f1])) (t0 : f0.type = ti) (t1 : f1.type = tm) (o0 : f0.offset = 0) (o1 : f1.offset = 1) (c0 : P.cellsOf ti = 1) (c1 : P.cellsOf tm = 1)
    (hC : P.cellsOf e = 2) (hi : P.underlying ti = some (.slice ei)) (hm : P.underlying tm = some (.slice ti)) (hei : P.underlying ei = some (.int .i64)) (cei : P.cellsOf ei = 1) (h : DataW.trod enc P w 0 (fun _ => true) true n e cs = some y) : ∃ g : Gv, cs = g.cells ∧ Gfit g ∧ RdG w w.heap.size g := by
  obtain ⟨ys, n', _, _, hlen, hyl, hf⟩ := DataW.trod_struct he h
  rw [hC] at hlen
  match cs, hlen with
  | [v0, v1], _ =>
    match ys, hyl with
    | [y0, y1], _ =>
      have h0 := hf 0 f0 rfl
      have h1 := hf 1 f1 rfl
      rw [o0, t0, c0] at h0
      rw [o1, t1, c1] at h1
      obtain ⟨A0, cc0, own, e0, n0, m0, r0⟩ := int_of hi hei cei h0
      obtain ⟨A1, cc1, rs, e1, n1, m1, r1, g1⟩ := slice_of Rw.cells (Rw.good w) hm c0 (by decide) rwLen (fun n cs y hy => by
        obtain ⟨A, c, l, hcs, hl, hc, hr⟩ := int_of hi hei cei hy
        exact ⟨⟨A, c, l⟩, hcs, hl, hc, hr⟩) h1
      simp at e0 e1
      rw [rw_flat] at r1
      exact ⟨⟨A0, cc0, own, A1, cc1, rs⟩, by simp [Gv.cells, e0, e1], ⟨n0, m0, n1, m1, fun r hr => ⟨(g1 r hr).1, (g1 r hr).2.1⟩⟩, ⟨r0, r1, fun r hr => (g1 r hr).2.2⟩⟩
end
end Go.Proofs.Ytibcjkpfpiamkab
namespace Go.Proofs.Ytibcjkpfpiamkab
open Go.RowKit
set_option linter.unusedVariables false

/-- The error of a game and a set. -/
def askE (G : Gm) (L : List Int) : Int := if gE G = 0 then (if setL G.own.length L = true then 0 else 1) else gE G
theorem askE_zero {G : Gm} {L : List Int} (h : askE G L = 0) : gE G = 0 ∧ setL G.own.length L = true := by
  unfold askE at h
  split at h
  · rename_i h1
    refine ⟨h1, ?_⟩
    split at h
    · assumption
    · cases h
  · contradiction
theorem askE_yes {G : Gm} {L : List Int} (h : gE G = 0) (g : setL G.own.length L = true) : askE G L = 0 := by unfold askE; rw [if_pos h, if_pos g]
theorem askE_no {G : Gm} {L : List Int} (h : gE G = 0) (g : setL G.own.length L = false) : askE G L = 1 := by unfold askE; rw [if_pos h, if_neg (by rw [g]; decide)]
theorem askE_bad {G : Gm} {L : List Int} (h : ¬ gE G = 0) : askE G L = gE G := if_neg h
theorem gat_lt {n : Nat} {L : List Int} (h : setL n L = true) (hn : n ≤ 32) : gatN L < 2 ^ n := by
  apply Nat.lt_pow_two_of_testBit
  intro j hj
  rcases Nat.lt_or_ge j 32 with h1 | h1
  · unfold gatN
    rw [bitK_test _ _ _ h1]
    cases hb : memB L j
    · rfl
    · have := set_mem h (memB_iff.1 hb)
      omega
  · exact high_bits (show gatN L < 2 ^ 32 from bit32 _) h1
theorem gat_at {n : Nat} {L : List Int} (h : setL n L = true) (hn : n ≤ 32) (j : Nat) : (gatN L).testBit j = memB L j := by
  rcases Nat.lt_or_ge j 32 with h1 | h1
  · unfold gatN
    rw [bitK_test _ _ _ h1]
  · rw [high_bits (show gatN L < 2 ^ 32 from bit32 _) h1]
    cases hb : memB L j
    · rfl
    · have := set_mem h (memB_iff.1 hb)
      omega

/-! ### Lists that prove wins -/
def inR (m : Int) (r : Int) : Bool := decide (0 ≤ r) && decide (r ≤ m)
def numN (R : List Int) (m : Int) : Nat := bitK (fun p => inR m (R.getD p (-1))) R.length
def areB (r : Int) : Bool := decide (-1 ≤ r) && decide (r ≤ 16)
def crB (G : Gm) (goal : Nat) (R : List Int) (p : Nat) : Bool :=
  if R.getD p (-1) = 0 then goal.testBit p else if 0 < R.getD p (-1) then fcB G 0 (numN R (R.getD p (-1) - 1)) p else true
def areL (G : Gm) (R : List Int) : Bool := R.all areB && decide (R.length = G.own.length)
def crE (G : Gm) (L R : List Int) : Int :=
  if askE G L = 0 then (if areL G R = true then (if (List.range G.own.length).all (crB G (gatN L) R) = true then 0 else 7) else 1) else askE G L
theorem areL_iff {G : Gm} {R : List Int} : areL G R = true ↔ (∀ r ∈ R, -1 ≤ r ∧ r ≤ 16) ∧ R.length = G.own.length := by
  unfold areL
  rw [Bool.and_eq_true, List.all_eq_true, decide_eq_true_eq]
  simp [areB]
theorem crE_zero {G : Gm} {L R : List Int} (h : crE G L R = 0) : askE G L = 0 ∧ areL G R = true ∧ ∀ p, p < G.own.length → crB G (gatN L) R p = true := by
  unfold crE at h
  split at h
  · rename_i h1
    refine ⟨h1, ?_⟩
    split at h
    · rename_i h2
      refine ⟨h2, ?_⟩
      split at h
      · rename_i h3
        exact fun p hp => List.all_eq_true.1 h3 p (List.mem_range.2 hp)
      · cases h
    · cases h
  · contradiction
theorem inR_iff {m r : Int} : inR m r = true ↔ 0 ≤ r ∧ r ≤ m := by simp [inR]
theorem num_at {R : List Int} {m : Int} {p : Nat} : (numN R m).testBit p = true ↔ 0 ≤ R.getD p (-1) ∧ R.getD p (-1) ≤ m := by
  unfold numN
  constructor
  · intro h
    have hp := bit_in (bitK_lt _ _) h
    rw [bitK_test _ _ _ hp, inR_iff] at h
    exact h
  · intro h
    have hp : p < R.length := by
      rcases Nat.lt_or_ge p R.length with g | g
      · exact g
      · rw [List.getD_eq_getElem?_getD, List.getElem?_eq_none g] at h
        simp at h
    rw [bitK_test _ _ _ hp, inR_iff]
    exact h
/-- A list that is accepted has numbers at places that are won only. -/
theorem cr_won {G : Gm} {L R : List Int} (h : crE G L R = 0) (hg : gatN L < 2 ^ G.own.length) : ∀ (m : Nat) (p : Nat), p < G.own.length → R.getD p (-1) = (m : Int) → (lv G (gatN L) (m + 1)).testBit p = true := by
  obtain ⟨_, _, hc⟩ := crE_zero h
  intro m
  induction m using Nat.strongRecOn with
  | _ m ih =>
    intro p hp hr
    have h1 := hc p hp
    unfold crB at h1
    rw [hr] at h1
    cases m with
    | zero =>
      rw [if_pos (by rfl)] at h1
      show (_ ||| _ : Nat).testBit p = true
      rw [Nat.testBit_or, h1]; rfl
    | succ m =>
      rw [if_neg (by omega), if_pos (by omega)] at h1
      show (_ ||| _ : Nat).testBit p = true
      rw [Nat.testBit_or, fcN_at hp]
      have : fcB G 0 (lv G (gatN L) (m + 1)) p = true := by
        refine fcB_mono (fun j hj => ?_) h1
        rw [num_at] at hj
        obtain ⟨i, hi⟩ := Int.eq_ofNat_of_zero_le hj.1
        have hjn : j < G.own.length := by
          have hl := (areL_iff.1 (crE_zero h).2.1).2
          rcases Nat.lt_or_ge j G.own.length with g | g
          · exact g
          · rw [List.getD_eq_getElem?_getD, List.getElem?_eq_none (by omega)] at hj
            simp at hj
        have := ih i (by omega) j hjn hi
        exact lv_mono (by omega) j this
      rw [this, Bool.or_true]
theorem cr_free {G : Gm} {L R : List Int} (h : crE G L R = 0) (hg : gatN L < 2 ^ G.own.length) {p : Nat} (hp : p < G.own.length) (hr : 0 ≤ R.getD p (-1)) : (wonN G (gatN L)).testBit p = true := by
  obtain ⟨m, hm⟩ := Int.eq_ofNat_of_zero_le hr
  have := cr_won h hg m p hp hm
  rw [rk_iff hg] at this
  exact (rk_won hg p).2 this.1
theorem rkL_getD {G : Gm} {goal p : Nat} (hp : p < G.own.length) : (rkL G goal).getD p (-1) = rkI G goal p := by
  rw [List.getD_eq_getElem?_getD, rkL_at hp]; rfl
theorem num_rk {G : Gm} {goal : Nat} (hg : goal < 2 ^ G.own.length) (m : Nat) : numN (rkL G goal) (m : Int) = lv G goal (m + 1) := by
  refine Nat.eq_of_testBit_eq fun p => ?_
  rw [Bool.eq_iff_iff, num_at, rk_iff hg]
  rcases Nat.lt_or_ge p G.own.length with h | h
  · rw [rkL_getD h]
  · have h1 : rkI G goal p = -1 := by
      refine rk_none hg ?_
      rw [high_bits (lv_lt hg _) h]
      decide
    rw [h1, List.getD_eq_getElem?_getD, List.getElem?_eq_none (by rw [rkL_len]; exact h)]
    simp
theorem rk_accepted {G : Gm} {L : List Int} (h : askE G L = 0) (hg : gatN L < 2 ^ G.own.length) (h16 : G.own.length ≤ 16) : crE G L (rkL G (gatN L)) = 0 := by
  unfold crE
  rw [if_pos h, if_pos, if_pos]
  · refine List.all_eq_true.2 fun p hp => ?_
    rw [List.mem_range] at hp
    unfold crB
    rw [rkL_getD hp]
    by_cases h0 : rkI G (gatN L) p = 0
    · rw [if_pos h0]
      have := (rk_some (k := 0) h0).1
      have e : lv G (gatN L) 1 = gatN L ||| fcN G 0 0 := rfl
      rw [e, fcN_zero (gE_zero (askE_zero h).1), Nat.or_zero] at this
      exact this
    · rw [if_neg h0]
      by_cases h1 : 0 < rkI G (gatN L) p
      · rw [if_pos h1]
        obtain ⟨m, hm⟩ := Int.eq_ofNat_of_zero_le (show 0 ≤ rkI G (gatN L) p - 1 by omega)
        rw [hm, num_rk hg]
        have h2 := rk_some (k := m + 1) (show rkI G (gatN L) p = ((m + 1 : Nat) : Int) by omega)
        have e : lv G (gatN L) (m + 1 + 1) = gatN L ||| fcN G 0 (lv G (gatN L) (m + 1)) := rfl
        rw [e, Nat.testBit_or, fcN_at hp] at h2
        have hgoal : (gatN L).testBit p = false := by
          cases hb : (gatN L).testBit p
          · rfl
          · have : (lv G (gatN L) (m + 1)).testBit p = true := by
              show (gatN L ||| fcN G 0 (lv G (gatN L) m)).testBit p = true
              rw [Nat.testBit_or, hb]; rfl
            rw [h2.2] at this
            cases this
        rw [hgoal, Bool.false_or] at h2
        exact h2.1
      · rw [if_neg h1]
  · rw [areL_iff, rkL_len]
    refine ⟨fun r hr => ?_, rfl⟩
    obtain ⟨p, hp, rfl⟩ := List.mem_map.1 hr
    have h1 := rk_ge (G := G) (goal := gatN L) p
    have h2 := rk_lt (G := G) (goal := gatN L) p
    omega

/-! ### Traps -/
def trB (G : Gm) (goal T : Nat) : Bool := (List.range G.own.length).all fun p => !T.testBit p || (!goal.testBit p && fcB G 1 T p)
def ctE (G : Gm) (L T : List Int) : Int :=
  if askE G L = 0 then (if setL G.own.length T = true then (if trB G (gatN L) (gatN T) = true then 0 else 7) else 1) else askE G L
theorem ctE_zero {G : Gm} {L T : List Int} (h : ctE G L T = 0) : askE G L = 0 ∧ setL G.own.length T = true ∧ trB G (gatN L) (gatN T) = true := by
  unfold ctE at h
  split at h
  · rename_i h1
    refine ⟨h1, ?_⟩
    split at h
    · rename_i h2
      refine ⟨h2, ?_⟩
      split at h
      · assumption
      · cases h
    · cases h
  · contradiction
theorem trB_iff {G : Gm} {goal T : Nat} (hT : T < 2 ^ G.own.length) : trB G goal T = true ↔ ∀ p, T.testBit p = true → goal.testBit p = false ∧ fcB G 1 T p = true := by
  unfold trB
  rw [List.all_eq_true]
  constructor
  · intro h p hp
    have := h p (List.mem_range.2 (bit_in hT hp))
    rw [hp] at this
    simpa using this
  · intro h p hp
    cases hb : T.testBit p
    · rfl
    · have := h p hb
      simp [this]
theorem trap_lv {G : Gm} (H : Ok G) {goal T : Nat} (hT : T < 2 ^ G.own.length) (h : trB G goal T = true) : ∀ k p, T.testBit p = true → (lv G goal k).testBit p = false := by
  rw [trB_iff hT] at h
  intro k
  induction k with
  | zero => intro p _; exact Nat.zero_testBit p
  | succ k ih =>
    intro p hp
    have hn := bit_in hT hp
    obtain ⟨h1, h2⟩ := h p hp
    show (goal ||| fcN G 0 (lv G goal k)).testBit p = false
    rw [Nat.testBit_or, h1, Bool.false_or, fcN_at hn]
    unfold fcB at h2 ⊢
    rcases H.who hn with hw | hw
    · rw [if_pos hw]
      rw [hw, if_neg (by decide)] at h2
      unfold hit
      rw [List.any_eq_false]
      intro d hd
      rw [ih _ (List.all_eq_true.1 h2 d hd)]
      decide
    · rw [hw, if_neg (by decide)]
      rw [hw, if_pos rfl] at h2
      obtain ⟨d, hd, he⟩ := List.any_eq_true.1 h2
      unfold inn
      rw [List.all_eq_false]
      exact ⟨d, hd, by rw [ih _ he]; decide⟩
theorem lv_fix {G : Gm} {goal : Nat} (hg : goal < 2 ^ G.own.length) : goal ||| fcN G 0 (wonN G goal) = wonN G goal := by
  show lv G goal (G.own.length + 1) = _
  exact lv_end hg (by omega)
def freeN (G : Gm) (goal : Nat) : Nat := bitK (fun p => !(wonN G goal).testBit p) G.own.length
theorem free_lt (G : Gm) (goal : Nat) : freeN G goal < 2 ^ G.own.length := bitK_lt _ _
theorem free_at {G : Gm} {goal p : Nat} (hp : p < G.own.length) : (freeN G goal).testBit p = !(wonN G goal).testBit p := bitK_test _ _ _ hp
theorem free_trap {G : Gm} (H : Ok G) {goal : Nat} (hg : goal < 2 ^ G.own.length) : trB G goal (freeN G goal) = true := by
  rw [trB_iff (free_lt G goal)]
  intro p hp
  have hn := bit_in (free_lt G goal) hp
  rw [free_at hn, Bool.not_eq_true'] at hp
  have h1 := lv_fix (G := G) hg
  rw [← h1, Nat.testBit_or, Bool.or_eq_false_iff, fcN_at hn] at hp
  refine ⟨hp.1, ?_⟩
  have h2 := hp.2
  unfold fcB at h2 ⊢
  rcases H.who hn with hw | hw
  · rw [hw, if_neg (by decide)]
    rw [if_pos hw] at h2
    unfold hit at h2
    rw [List.any_eq_false] at h2
    unfold inn
    refine List.all_eq_true.2 fun d hd => ?_
    rw [free_at (H.mem hn hd).2]
    have := h2 d hd
    simpa using this
  · rw [hw, if_pos rfl]
    rw [hw, if_neg (by decide)] at h2
    unfold inn at h2
    rw [List.all_eq_false] at h2
    obtain ⟨d, hd, he⟩ := h2
    unfold hit
    refine List.any_eq_true.2 ⟨d, hd, ?_⟩
    rw [free_at (H.mem hn hd).2]
    simpa using he
/-- How many are won and how many are free. -/
theorem won_free (G : Gm) (goal : Nat) : cntK (wonN G goal).testBit G.own.length + cntK (freeN G goal).testBit G.own.length = G.own.length := by
  have e : cntK (freeN G goal).testBit G.own.length = cntK (fun p => !(wonN G goal).testBit p) G.own.length := cntK_congr fun p hp => free_at hp
  rw [e]
  have key : ∀ (f : Nat → Bool) n, cntK f n + cntK (fun p => !f p) n = n := by
    intro f n
    induction n with
    | zero => rfl
    | succ n ih =>
      rw [cntK, cntK]
      cases f n <;> simp <;> omega
  exact key _ _
end Go.Proofs.Ytibcjkpfpiamkab
namespace Go.Proofs.Ytibcjkpfpiamkab
open Go.RowKit
set_option linter.unusedVariables false

theorem Try.eInt : Elem Try.prog 22 3 (.int .i64 0) 1 8 := ⟨Try.underlying22, by kernel_rfl, rfl, by decide, by decide⟩
/-- A list in new memory; a list and an error. -/
def Fresh (w : World) (A : Option Addr) : Prop := ∀ ad, A = some ad → w.heap.size ≤ ad.block
theorem own_fresh {w w0 : World} {n c base : Nat} {A : Option Addr} {e : TypeId} {size : Nat} {xs : List Value} (h : w.ownsRow base e size (.slice A n c) n xs) (hb : w0.heap.size ≤ base) : Fresh w0 A := by
  intro ad ha
  rcases h.2 with ⟨hv, h0⟩ | ⟨g, cap, cur, hv, hbg, hg, rest⟩
  · injection hv with h1
    rw [ha] at h1
    cases h1
  · injection hv with h1
    rw [ha] at h1
    cases h1
    exact Nat.le_trans hb hbg
theorem fresh_nil (w : World) : Fresh w none := fun _ h => by cases h
theorem fresh_at (w : World) {g : Nat} (h : w.heap.size ≤ g) : Fresh w (some ⟨g, 0, none⟩) := fun _ he => by cases he; exact h
theorem Fresh.le {w w' : World} {A : Option Addr} (h : Fresh w A) (hs : w'.heap.size ≤ w.heap.size) : Fresh w' A := fun ad ha => Nat.le_trans hs (h ad ha)
def MadeI (w : World) (L : List Int) (e : Ending) (w' : World) : Prop := ∃ A c, e = .returned (.slice A L.length c) ∧ L.length ≤ c ∧ Fresh w A ∧ Rd w' w'.heap.size A (ints L) ∧ Below w.heap.size w w'
def MadeIE (w : World) (L : List Int) (E : Int) (e : Ending) (w' : World) : Prop := ∃ A c, e = .returned (.tuple #[.slice A L.length c, .int .i64 E]) ∧ L.length ≤ c ∧ Fresh w A ∧ Rd w' w'.heap.size A (ints L) ∧ Below w.heap.size w w'
def lst (x : Nat) : List Int := listK x.testBit 16
theorem lst_le (x : Nat) : (lst x).length ≤ 16 := listK_le _ _
theorem prv_ge {lim : Int} {L : List Int} {k : Nat} (h : ∀ j, j < k → okI lim L j = true) : -1 ≤ prv L k := by
  unfold prv
  by_cases hk : k = 0
  · rw [if_pos hk]; omega
  · rw [if_neg hk]
    have := ok_pos (lim := lim) (L := L) (k := k - 1) fun j hj => h j (by omega)
    omega
set_option maxRecDepth 4000 in
theorem isSet_any (A : Option Addr) (c : Nat) (L : List Int) (lim : Int) (w : World) (hr : Rd w w.heap.size A (ints L)) (hn : L.length ≤ 9223372036854775807) (hlim : lim ≤ 9223372036854775807) :
    Calls Try.prog 42 #[.slice A L.length c, .int .i64 lim] w fun e w' => e = .returned (.bool (setL lim L)) ∧ w = w' := by
  have HR := Lib.hid hr
  clear hr
  go_enter Try.func42, Try.ntmps42
  go_wp2
  go_loop [5, 10] (fun v i => ∃ k : Nat, k ≤ L.length ∧ i = .int .i64 k ∧ v = .int .i64 (prv L k + 1) ∧ ∀ j, j < k → okI lim L j = true) (fun _ i => L.length - (intOf i).toNat)
  case atStart => exact ⟨0, by omega, rfl, rfl, fun j hj => by omega⟩
  case round =>
    obtain ⟨k, hk, rfl, rfl, hall⟩ := hrel
    have HA := Lib.hid hall
    clear hall
    by_cases hlt : k < L.length
    · obtain ⟨b, o, d, rfl, hd, hc⟩ := HR.out.int k hlt
      have HP := Lib.hid (prv_next hd.out)
      have hP0 := prv_ge (lim := lim) HA.out
      have hok : okI lim L k = (decide (prv L k < d) && decide (d < lim)) := by unfold okI; rw [getD_at hd.out]
      have HB := Lib.hid (fun h => setL_bad (lim := lim) hlt h)
      have HO := Lib.hid (show okI lim L k = true → ∀ j, j < k + 1 → okI lim L j = true from fun h j hj => by
        rcases Nat.lt_or_ge j k with h1 | h1
        · exact HA.out j h1
        · obtain rfl : j = k := by omega
          exact h)
      generalize prv L k = P at *
      by_cases h1 : P < d
      · have e1 : decide (d < P + 1) = false := by simp; omega
        by_cases h2 : d < lim
        · have e2 : decide (lim ≤ d) = false := by simp; omega
          have HN := Lib.hid (HO.out (by rw [hok, decide_eq_true h1, decide_eq_true h2]; rfl))
          have e3 : IntKind.i64.wrap (d + 1) = d + 1 := by rw [IntKind.wrap_i64]; omega
          clear h1 h2 hok hP0
          go_wp2_with fail
          go_round
          case rel => exact ⟨k + 1, by omega, by go_num, by rw [HP.out], HN.out⟩
          case measure => simp [intOf]; omega
        · have e2 : decide (lim ≤ d) = true := by simp; omega
          have HE := Lib.hid (HB.out (by rw [hok, decide_eq_true h1, decide_eq_false h2]; rfl))
          clear h1 h2 hok hP0
          go_wp2_with fail
          go_ret
          exact ⟨by rw [HE.out]; rfl, rfl⟩
      · have e1 : decide (d < P + 1) = true := by simp; omega
        have HE := Lib.hid (HB.out (by rw [hok, decide_eq_false h1]; rfl))
        clear h1 hok hP0
        go_wp2_with fail
        go_ret
        exact ⟨by rw [HE.out]; rfl, rfl⟩
    · have hks : k = L.length := by omega
      subst hks
      have HE := Lib.hid (setL_ok HA.out)
      go_wp2_with fail
      go_ret
      exact ⟨by rw [HE.out]; rfl, rfl⟩
set_option maxRecDepth 4000 in
theorem gather_any (A : Option Addr) (c : Nat) (L : List Int) (lim : Int) (w : World) (hr : Rd w w.heap.size A (ints L)) (hn : L.length ≤ 9223372036854775807) (hs : setL lim L = true) (hlim : lim ≤ 31) :
    Calls Try.prog 21 #[.slice A L.length c] w fun e w' => e = .returned (.int .u32 (gatN L : Nat)) ∧ w = w' := by
  have HR := Lib.hid hr
  have HS := Lib.hid hs
  clear hr hs
  go_enter Try.func21, Try.ntmps21
  go_wp2
  go_loop [3, 8] (fun v i => ∃ k : Nat, k ≤ L.length ∧ i = .int .i64 k ∧ v = .int .u32 (gatN (L.take k) : Nat)) (fun _ i => L.length - (intOf i).toNat)
  case atStart => exact ⟨0, by omega, rfl, by rw [show gatN (L.take 0) = 0 from bitK_zero fun j _ => rfl]; rfl⟩
  case round =>
    obtain ⟨k, hk, rfl, rfl⟩ := hrel
    by_cases hlt : k < L.length
    · obtain ⟨b, o, d, rfl, hd, hc⟩ := HR.out.int k hlt
      have hdl := set_in HS.out hd.out
      obtain ⟨n, rfl⟩ := Int.eq_ofNat_of_zero_le hdl.1
      have HN := Lib.hid (gat_next hd.out (by omega))
      have HSh := Lib.hid (shl_u32 (k := n) (by omega))
      have hgl : gatN (L.take k) < 4294967296 := bit32 _
      generalize gatN (L.take k) = G at *
      have b0 : (0 : Int) ≤ (n : Int) := by omega
      have b1 : (n : Int) < 32 := by omega
      clear hdl
      go_wp2_with fail
      go_round
      case rel => exact ⟨k + 1, by omega, by go_num, by rw [HSh.out, HN.out]⟩
      case measure => simp [intOf]; omega
    · have hks : k = L.length := by omega
      subst hks
      have hl : gatN (L.take L.length) = gatN L := by rw [List.take_length]
      rw [hl]
      clear hl
      go_wp2_with fail
      go_ret
      exact ⟨rfl, rfl⟩
theorem has_any (x n : Nat) (w : World) (hx : x < 4294967296) (hn : n < 32) :
    Calls Try.prog 26 #[.int .u32 x, .int .i64 n] w fun e w' => e = .returned (.bool (x.testBit n)) ∧ w = w' := by
  have h := shr_eq x n hx
  have h0 : (0 : Int) ≤ (n : Int) := by omega
  have h1 : (n : Int) < 32 := by omega
  go_enter Try.func26, Try.ntmps26
  go_wp2
  go_ret
  exact ⟨rfl, rfl⟩
def mtB (x y : Nat) : Bool := !decide (x &&& y = 0)
def liB (x y : Nat) : Bool := decide (x &&& (4294967295 - y) = 0)
theorem meets_any (x y : Nat) (w : World) (hx : x < 4294967296) (hy : y < 4294967296) :
    Calls Try.prog 29 #[.int .u32 x, .int .u32 y] w fun e w' => e = .returned (.bool (mtB x y)) ∧ w = w' := by
  have h : (bits .and .u32 (x : Int) (y : Int) != 0) = mtB x y := by
    rw [u32_and_nat _ _ hx hy]
    unfold mtB
    by_cases hz : x &&& y = 0
    · rw [hz]; rfl
    · rw [decide_eq_false hz]
      show _ = true
      rw [bne_iff_ne]
      intro h2
      exact hz (by exact_mod_cast h2)
  generalize mtB x y = B at *
  go_enter Try.func29, Try.ntmps29
  go_wp2
  go_ret
  exact ⟨rfl, rfl⟩
theorem liesIn_any (x y : Nat) (w : World) (hx : x < 4294967296) (hy : y < 4294967296) :
    Calls Try.prog 30 #[.int .u32 x, .int .u32 y] w fun e w' => e = .returned (.bool (liB x y)) ∧ w = w' := by
  have h : (bits .andNot .u32 (x : Int) (y : Int) == 0) = liB x y := by
    rw [u32_andNot_nat _ _ hx hy]
    unfold liB
    by_cases hz : x &&& (4294967295 - y) = 0
    · rw [hz]; rfl
    · rw [decide_eq_false hz, beq_eq_false_iff_ne]
      intro h2
      exact hz (by exact_mod_cast h2)
  generalize liB x y = B at *
  go_enter Try.func30, Try.ntmps30
  go_wp2
  go_ret
  exact ⟨rfl, rfl⟩
set_option maxRecDepth 4000 in
theorem list_any (x : Nat) (w : World) (hx : x < 4294967296) :
    Calls Try.prog 23 #[.int .u32 x] w (MadeI w (lst x)) := by
  have HH := Lib.hid (fun n w hn => has_any x n w hx hn)
  have HL := Lib.hid (fun k => listK_le x.testBit k)
  have HY := Lib.hid (fun k h => listK_yes (f := x.testBit) (k := k) h)
  have HN := Lib.hid (fun k h => listK_no (f := x.testBit) (k := k) h)
  have HE := Lib.hid (show lst x = listK x.testBit 16 from rfl)
  go_enter Try.func23, Try.ntmps23
  go_wp2_with fail
  go_loopw [3, 5] (fun v i wr => ∃ (k : Nat) (A9 : Option Addr) (c9 : Nat), k ≤ 16 ∧ i = .int .i64 k ∧ v = .slice A9 (listK x.testBit k).length c9 ∧ wr.ownsRow w.heap.size 3 1 v (listK x.testBit k).length (ints (listK x.testBit k)) ∧ Below w.heap.size w wr) (fun _ i _ => 16 - (intOf i).toNat)
  case atStart => exact ⟨0, none, 0, by omega, rfl, rfl, World.ownsRow_nil _ _ _ _, Below.refl _ _⟩
  case round =>
    obtain ⟨k, A9, c9, hk, rfl, rfl, hown, hb⟩ := hrel
    have O := Lib.hid hown
    have BW := Lib.hid hb
    clear hown hb
    by_cases hlt : k < 16
    · have hle := HL.out k
      have HQ := Lib.hid (fun w => HH.out k w (by omega))
      cases hq : x.testBit k
      · have HS := Lib.hid (HN.out k hq)
        rw [hq] at HQ
        clear hq
        generalize listK x.testBit k = L at *
        go_wp2_with fail
        refine (HQ.out wr).mono ?_
        rintro e w' ⟨rfl, rfl⟩
        go_wp2_with fail
        go_roundw
        case rel => exact ⟨k + 1, A9, c9, by omega, by go_num, by rw [HS.out], by rw [HS.out]; exact O.out, BW.out⟩
        case measure => simp [intOf]; omega
      · have HS := Lib.hid (HY.out k hq)
        rw [hq] at HQ
        clear hq
        generalize listK x.testBit k = L at *
        go_wp2_with fail
        refine (HQ.out wr).mono ?_
        rintro e w' ⟨rfl, rfl⟩
        go_wp2_with (at_builtin; refine app Try.eInt rfl _ _ rfl rfl (O.out.alloc _) (BW.out.alloc BW.out.size _) (size_alloc' BW.out.size _) rfl (Rd.one wr (.int .i64 k) 3 (Nat.lt_succ_self _)) (by simp) (ints_one [(k : Int)]) (L.length + 1) rfl (by omega) ?_; intro A4 c4 w4 o4 b4 _ _; have O4 := Lib.hid o4; have B4 := Lib.hid b4; clear o4 b4)
        go_roundw
        case rel => exact ⟨k + 1, A4, c4, by omega, by go_num, by rw [HS.out, List.length_append]; rfl, by rw [HS.out, ints_append, List.length_append]; exact O4.out, B4.out⟩
        case measure => simp [intOf]; omega
    · obtain rfl : k = 16 := by omega
      have hown := O.out
      obtain ⟨A8, c8, he, hc8⟩ := own_form hown
      have hc : (listK x.testBit 16).length ≤ c9 := by injection he with h1 h2 h3; omega
      clear hown he
      go_wp2_with fail
      go_ret
      exact ⟨A9, c9, by rw [HE.out]; rfl, by rw [HE.out]; exact hc, own_fresh O.out (Nat.le_refl _), by rw [HE.out]; exact Rd.of_own O.out, BW.out⟩
end Go.Proofs.Ytibcjkpfpiamkab
namespace Go.Proofs.Ytibcjkpfpiamkab
open Go.RowKit
set_option linter.unusedVariables false

def inW (lo hi d : Int) : Bool := decide (lo ≤ d) && decide (d ≤ hi)
theorem inW_no {lo hi d : Int} (h : d < lo ∨ hi < d) : inW lo hi d = false := by
  unfold inW
  rcases h with h | h
  · rw [decide_eq_false (show ¬ lo ≤ d by omega)]; rfl
  · rw [decide_eq_false (show ¬ d ≤ hi by omega), Bool.and_false]
theorem inW_yes {lo hi d : Int} (h1 : ¬ d < lo) (h2 : ¬ hi < d) : inW lo hi d = true := by
  unfold inW
  rw [decide_eq_true (show lo ≤ d by omega), decide_eq_true (show d ≤ hi by omega)]
  rfl
theorem inW_iff {lo hi d : Int} : inW lo hi d = true ↔ lo ≤ d ∧ d ≤ hi := by simp [inW]
set_option maxRecDepth 4000 in
theorem SameInts_same (A1 A2 : Option Addr) (c1 c2 : Nat) (l : List Int) (n1 n2 : Nat) (w : World) (hl1 : l.length = n1) (hl2 : l.length = n2) (hr1 : Rd w w.heap.size A1 (ints l)) (hr2 : Rd w w.heap.size A2 (ints l)) (hn : n1 ≤ 1000) :
    Calls Try.prog 5 #[.slice A1 n1 c1, .slice A2 n2 c2] w fun e w' => e = .returned (.bool true) ∧ ∃ n, w' = w.drewN n := by
  subst hl1
  subst hl2
  have R1 := Lib.hid hr1
  have R2 := Lib.hid hr2
  clear hr1 hr2
  go_enter Try.func5, Try.ntmps5
  go_wp2_with fail
  go_loopw [5] (fun i wr => ∃ k : Nat, k ≤ l.length ∧ i = .int .i64 k ∧ ∃ m, wr = w.drewN m) (fun i _ => l.length - (intOf i).toNat)
  case atStart => exact ⟨0, by omega, rfl, 0, rfl⟩
  case round =>
    obtain ⟨k, hk, rfl, m, rfl⟩ := hrel
    by_cases hlt : k < l.length
    · obtain ⟨b, o, d, rfl, hd, hc⟩ := R1.out.int k hlt
      obtain ⟨b', o', d', rfl, hd', hc'⟩ := R2.out.int k hlt
      have hdd : d' = d := by
        have := hd.out
        rw [hd'.out] at this
        exact Option.some.inj this
      subst hdd
      go_wp2_with fail
      go_quiet (fail)
      go_wp2
      go_roundw
      case rel => exact ⟨k + 1, by omega, by go_num, _, rfl⟩
      case measure => simp [intOf]; omega
    · have hks : k = l.length := by omega
      have HK := Lib.hid hks
      clear hks
      go_wp2_with fail
      go_ret
      exact ⟨rfl, _, rfl⟩

theorem gat_next64 {L : List Int} {k n : Nat} (h : L[k]? = some (n : Int)) (hn : n < 31) : bits .or .i64 ((gatN (L.take k) : Nat) : Int) ((2 ^ n : Nat) : Int) = ((gatN (L.take (k + 1)) : Nat) : Int) := by
  have h2 : 2 ^ n < 2 ^ 32 := Nat.pow_lt_pow_right (by omega) (by omega)
  have h3 : 2 ^ n < 4294967296 := h2
  have hg : gatN (L.take k) < 4294967296 := bit32 _
  rw [i64_or_nat _ _ (by omega) (by omega)]
  congr 1
  refine ext32 (show _ < 2 ^ 32 from Nat.or_lt_two_pow hg h3) (bit32 _) fun j hj => ?_
  unfold gatN
  rw [Nat.testBit_or, bitK_test _ _ _ hj, bitK_test _ _ _ hj, memB_next h, Nat.testBit_two_pow]
theorem shl_i64 {n : Nat} (h : n < 32) : wrap64 ((2 : Int) ^ n) = ((2 ^ n : Nat) : Int) := by
  have e : (2 : Int) ^ n = ((2 ^ n : Nat) : Int) := by simp
  have hp : 2 ^ n < 2 ^ 32 := Nat.pow_lt_pow_right (by omega) h
  rw [e]
  generalize 2 ^ n = P at *
  exact IntWalk.wrap64_in _ ⟨by omega, by omega⟩
theorem shr_bit (n i : Nat) (hn : n < 9223372036854775808) : (bits .and .i64 ((n : Int) / 2 ^ i) 1 == 1) = n.testBit i := by
  have h := bit_div (n := n) (j := i)
  have e : (n : Int) / 2 ^ i = ((n / 2 ^ i : Nat) : Int) := by simp
  have hd : n / 2 ^ i ≤ n := Nat.div_le_self _ _
  rw [e, show (1 : Int) = ((1 : Nat) : Int) from rfl, i64_and_nat _ _ (by omega) (by decide), Nat.and_one_is_mod, h]
  cases n.testBit i <;> rfl
theorem list_stop {x k : Nat} (h : x / 2 ^ k = 0) (hk : k ≤ 16) : listK x.testBit k = lst x := by
  have hx : x < 2 ^ k := by
    rcases Nat.lt_or_ge x (2 ^ k) with h1 | h1
    · exact h1
    · have := Nat.div_pos h1 (Nat.two_pow_pos k)
      omega
  exact (listK_high (fun j hj => high_bits hx hj) hk).symm
theorem has_next {L : List Int} {k : Nat} {d n : Int} (h : L[k]? = some d) (hn : ∀ j, j < k → ¬ L.getD j 0 = n) (hd : ¬ d = n) : ∀ j, j < k + 1 → ¬ L.getD j 0 = n := fun j hj => by
  rcases Nat.lt_or_ge j k with h1 | h1
  · exact hn j h1
  · obtain rfl : j = k := by omega
    rw [getD_at h]; exact hd
theorem has_end {L : List Int} {n : Int} (hn : ∀ j, j < L.length → ¬ L.getD j 0 = n) : decide (n ∈ L) = false := by
  rw [decide_eq_false_iff_not]
  intro hm
  obtain ⟨j, hj, he⟩ := List.getElem_of_mem hm
  exact hn j hj (by rw [List.getD_eq_getElem?_getD, List.getElem?_eq_getElem hj]; exact he)
set_option maxRecDepth 4000 in
theorem Has_any (A : Option Addr) (c : Nat) (L : List Int) (n : Int) (w : World) (hr : Rd w w.heap.size A (ints L)) (hl : L.length ≤ 9223372036854775807) :
    Calls Try.prog 13 #[.slice A L.length c, .int .i64 n] w fun e w' => e = .returned (.bool (decide (n ∈ L))) ∧ w = w' := by
  have HR := Lib.hid hr
  clear hr
  have HE := Lib.hid (fun h => has_end (L := L) (n := n) h)
  have HM := Lib.hid (fun (h : n ∈ L) => (decide_eq_true h : decide (n ∈ L) = true))
  generalize decide (n ∈ L) = B at *
  go_enter Try.func13, Try.ntmps13
  go_wp2
  go_loop [5] (fun i => ∃ k : Nat, k ≤ L.length ∧ i = .int .i64 k ∧ ∀ j, j < k → ¬ L.getD j 0 = n) (fun i => L.length - (intOf i).toNat)
  case atStart => exact ⟨0, by omega, rfl, fun j hj => by omega⟩
  case round =>
    obtain ⟨k, hk, rfl, hall⟩ := hrel
    have HA := Lib.hid hall
    clear hall
    by_cases hlt : k < L.length
    · obtain ⟨b, o, d, rfl, hd, hc⟩ := HR.out.int k hlt
      by_cases h1 : d = n
      · subst h1
        have HB := Lib.hid (HM.out (List.mem_of_getElem? hd.out))
        go_wp2_with fail
        go_ret
        exact ⟨by rw [HB.out]; rfl, rfl⟩
      · have HN := Lib.hid (has_next hd.out HA.out h1)
        have e1 : (d == n) = false := by simpa using h1
        clear h1
        go_wp2_with fail
        go_round
        case rel => exact ⟨k + 1, by omega, by go_num, HN.out⟩
        case measure => simp [intOf]; omega
    · have hks : k = L.length := by omega
      subst hks
      have HB := Lib.hid (HE.out HA.out)
      go_wp2_with fail
      go_ret
      exact ⟨by rw [HB.out]; rfl, rfl⟩
end Go.Proofs.Ytibcjkpfpiamkab
namespace Go.Proofs.Ytibcjkpfpiamkab
open Go.RowKit
set_option linter.unusedVariables false

theorem cell_up {w : World} {o : Obj} {p : Addr} {u : Value} (h : w.cell? p = some u) : (w.alloc o).cell? p = some u := by
  rw [World.cell?_alloc_lt w o p (World.block_lt_of_cell? w p h)]
  exact h
theorem Rd.of_block {w : World} {g : Nat} {e : TypeId} {xs : List Value} (h : w.heap[g]? = some (.cells xs.toArray e (0, 0))) : Rd w w.heap.size (some ⟨g, 0, none⟩) xs :=
  .inr ⟨g, 0, rfl, lt_of_block h, fun i u hu => by simp [World.cell?, h, hu]⟩
theorem Rd.lit (w : World) (cs : List Value) (e : TypeId) : Rd (w.alloc (.cells cs.toArray e)) (w.alloc (.cells cs.toArray e)).heap.size (some ⟨w.heap.size, 0, none⟩) cs :=
  Rd.of_block (heap_alloc_new w _)
theorem one_pt (w : World) (v0 v1 : Value) (t : TypeId) : ∃ W, w.alloc (.cells #[v0, v1] t) = W ∧ W.cell? ⟨w.heap.size, 0, none⟩ = some v0 ∧ W.cell? ⟨w.heap.size, 1, none⟩ = some v1 ∧ w.heap.size < W.heap.size ∧ Below w.heap.size w W := by
  have h := heap_alloc_new w (.cells #[v0, v1] t)
  refine ⟨_, rfl, ?_, ?_, by simp, (Below.refl _ _).alloc (Nat.le_refl _) _⟩ <;> rw [cell_of_row _ _ _ _ _ _ h] <;> rfl
theorem pt_keep {W w1 : World} {n : Nat} {v0 v1 : Value} (h : W.cell? ⟨n, 0, none⟩ = some v0 ∧ W.cell? ⟨n, 1, none⟩ = some v1 ∧ n < W.heap.size) (hb : Below W.heap.size W w1) :
    w1.cell? ⟨n, 0, none⟩ = some v0 ∧ w1.cell? ⟨n, 1, none⟩ = some v1 := by
  obtain ⟨h0, h1, hn⟩ := h
  have k := fun o => hb.cell (p := ⟨n, o, none⟩) hn
  exact ⟨(k 0).trans h0, (k 1).trans h1⟩
theorem own_below {w w' : World} {base n : Nat} {e : TypeId} {size : Nat} {v : Value} {xs : List Value} (h : w.ownsRow base e size v n xs) (hb : Below w.heap.size w w') : w'.ownsRow base e size v n xs := by
  refine ⟨h.1, ?_⟩
  rcases h.2 with h1 | ⟨g, cap, cur, hv, hbg, hg, rest⟩
  · exact .inl h1
  · exact .inr ⟨g, cap, cur, hv, hbg, (hb.block g (lt_of_block hg)).trans hg, rest⟩
theorem own_full {w : World} {base g n : Nat} {e : TypeId} {xs : List Value} (h : w.ownsRow base e 1 (.slice (some ⟨g, 0, none⟩) n n) n xs) : w.heap[g]? = some (.cells xs.toArray e (0, 0)) := by
  rcases h.2 with ⟨hv, _⟩ | ⟨g', cap, cur, hv, _, hg, _, _, hcs, htake⟩
  · cases hv
  · injection hv with h1 h2 h3
    injection h1 with h1
    injection h1 with h1
    subst h1; subst h3
    have : cur.toList = xs := by rw [← htake, List.take_of_length_le (by simp [hcs])]
    rw [← this]
    simpa using hg
theorem blk_set {w : World} {g : Nat} {t : TypeId} {cs : Array Value} (h : w.heap[g]? = some (.cells cs t (0, 0))) (i : Nat) (u : Value) : (w.setCell ⟨g, i, none⟩ u).heap[g]? = some (.cells (cs.setIfInBounds i u) t (0, 0)) := by
  simp [World.setCell, Array.getElem?_modify, h]
theorem blk_free {w : World} {g : Nat} {t : TypeId} {cs : Array Value} (h : w.heap[g]? = some (.cells cs t (0, 0))) (i : Nat) : w.frozen? ⟨g, i, none⟩ = false := by
  simp [World.frozen?, h]
theorem copy_from {w : World} {B g off : Nat} {A : Option Addr} {cs : List Value} (h : Rd w B A cs) :
    0 < cs.length → some (⟨g, off, none⟩ : Addr) = some ⟨g, off, none⟩ ∧ ∃ ad, A = some ad ∧ ∀ j v, cs[j]? = some v → w.cell? (ad.add j) = some v := by
  intro hp
  refine ⟨rfl, ?_⟩
  rcases h with h0 | ⟨b, o, ha, _, hc⟩
  · rw [h0] at hp; simp at hp
  · exact ⟨_, ha, fun j v hv => by rw [Go.WideShapes.add_plain]; exact hc j v hv⟩
theorem Rd.pt {w : World} {B : Nat} {A : Option Addr} {l : List Pt} (h : Rd w B A (l.flatMap Pt.cells)) (k : Nat) (hk : k < l.length) :
    ∃ b o p, A = some ⟨b, o, none⟩ ∧ Hid (l[k]? = some p) ∧ w.cell? ⟨b, o + k * 2, none⟩ = some (.int .i64 p.x) ∧ w.cell? ⟨b, o + k * 2 + 1, none⟩ = some (.int .i64 p.y) := by
  obtain ⟨b, o, p, ha, _, hx, hc⟩ := h.rec ptLen (by decide) k hk
  exact ⟨b, o, p, ha, hx, hc 0 _ rfl, hc 1 _ rfl⟩
/-- A block that a box of many cells makes. -/
theorem one_blk (w : World) (cs : Array Value) (t : TypeId) : ∃ W, w.alloc (.cells cs t) = W ∧ W.heap[w.heap.size]? = some (.cells cs t (0, 0)) ∧ w.heap.size < W.heap.size ∧ Below w.heap.size w W :=
  ⟨_, rfl, heap_alloc_new w _, by simp, (Below.refl _ _).alloc (Nat.le_refl _) _⟩
theorem blk_cell {w : World} {g j : Nat} {cs : Array Value} {t : TypeId} (h : w.heap[g]? = some (.cells cs t (0, 0))) : w.cell? ⟨g, j, none⟩ = cs[j]? := cell_of_row w g j cs t _ h
end Go.Proofs.Ytibcjkpfpiamkab
namespace Go.Proofs.Ytibcjkpfpiamkab
open Go.RowKit
set_option linter.unusedVariables false

theorem box_game (w : World) (g : Gv) (t : TypeId) (hr : RdG w w.heap.size g) : ∃ W, w.alloc (.cells #[.slice g.A0 g.own.length g.c0, .slice g.A1 g.rs.length g.c1] t) = W ∧ W.cell? ⟨w.heap.size, 0, none⟩ = some (.slice g.A0 g.own.length g.c0) ∧
    W.cell? ⟨w.heap.size, 1, none⟩ = some (.slice g.A1 g.rs.length g.c1) ∧ w.heap.size < W.heap.size ∧ Below w.heap.size w W ∧ RdG W W.heap.size g := by
  obtain ⟨W, e, h0, h1, h2, h3⟩ := one_pt w (.slice g.A0 g.own.length g.c0) (.slice g.A1 g.rs.length g.c1) t
  exact ⟨W, e, h0, h1, h2, h3, hr.up h3⟩
theorem okRow_at {G : Gm} {k : Nat} {d : Int} {l : List Int} (hd : G.own[k]? = some d) (hl : G.row k = l) : okRow G k = ((decide (d = 0) || decide (d = 1)) && (!decide (l.length = 0) && setL G.own.length l)) := by
  unfold okRow
  rw [who_at hd, hl]
theorem okRow_next {G : Gm} {k : Nat} (ha : ∀ j, j < k → okRow G j = true) (h : okRow G k = true) : ∀ j, j < k + 1 → okRow G j = true := fun j hj => by
  rcases Nat.lt_or_ge j k with h1 | h1
  · exact ha j h1
  · obtain rfl : j = k := by omega
    exact h
theorem cell_keep {w w' : World} {b n i : Nat} {v : Value} (h : w.cell? ⟨b, i, none⟩ = some v) (hb : Below n w w') (hn : b < n) : w'.cell? ⟨b, i, none⟩ = some v := (hb.cell (p := ⟨b, i, none⟩) hn).trans h
set_option maxRecDepth 4000 in
set_option maxHeartbeats 1600000 in
theorem Validate_any (g : Gv) (w : World) (hr : RdG w w.heap.size g) (hf : Gfit g) :
    Calls Try.prog 34 #[g.v] w fun e w' => e = .returned (.int .i64 (gE g.G)) ∧ Below w.heap.size w w' := by
  obtain ⟨W, hW, p0, p1, hz, hb, hr1⟩ := box_game w g 25 hr
  obtain ⟨n0, m0, n1, m1, hfr⟩ := hf
  obtain ⟨A0, c0, own, A1, c1, rs⟩ := g
  have R0 := Lib.hid (show Rd W W.heap.size A0 (ints own) from hr1.o)
  have R1 := Lib.hid (show RdR W W.heap.size A1 rs from hr1.r)
  have B0 := Lib.hid hb
  have HF := Lib.hid (show ∀ r ∈ rs, r.l.length ≤ r.c ∧ r.c ≤ maxLen from hfr)
  clear hfr
  simp only at hW p0 p1 n0 n1 m0 m1
  unfold Gv.v
  simp only
  obtain ⟨G, hG⟩ : ∃ G, Gv.G ⟨A0, c0, own, A1, c1, rs⟩ = G := ⟨_, rfl⟩
  rw [hG]
  have hGo : G.own = own := by rw [← hG]; rfl
  have hGm : G.mv.length = rs.length := by rw [← hG]; simp [Gv.G]
  have HRow := Lib.hid (fun k A c l (h : rs[k]? = some ⟨A, c, l⟩) => (show G.row k = l by rw [← hG]; exact row_of h))
  have HV := Lib.hid (fun A c (L : List Int) lim w h hn hl => isSet_any A c L lim w h hn hl)
  clear hr hr1 hb hG
  unfold maxLen at m0 m1
  by_cases hlg : own.length = 0 ∨ 16 < own.length
  · have HE := Lib.hid (gE_large (G := G) (by rw [hGo]; exact hlg))
    clear hGo hGm
    by_cases h0 : own.length = 0
    · have e1 : ((own.length : Int) == 0) = true := by rw [h0]; rfl
      clear hlg h0
      go_enter Try.func34, Try.ntmps34
      go_wp2_with fail
      go_ret
      exact ⟨by rw [HE.out]; rfl, B0.out⟩
    · have e1 : ((own.length : Int) == 0) = false := by rw [beq_eq_false_iff_ne]; omega
      have e2 : decide ((16 : Int) < (own.length : Int)) = true := by rw [decide_eq_true_eq]; omega
      clear hlg h0
      go_enter Try.func34, Try.ntmps34
      go_wp2_with fail
      go_ret
      exact ⟨by rw [HE.out]; rfl, B0.out⟩
  · have e1 : ((own.length : Int) == 0) = false := by rw [beq_eq_false_iff_ne]; omega
    have e2 : decide ((16 : Int) < (own.length : Int)) = false := by rw [decide_eq_false_iff_not]; omega
    have hlg' : ¬ (G.own.length = 0 ∨ 16 < G.own.length) := by rw [hGo]; exact hlg
    by_cases hln : rs.length = own.length
    · have e3 : ((rs.length : Int) != (own.length : Int)) = false := by rw [hln]; simp
      have HB := Lib.hid (fun p (hp : p < own.length) h => gE_bad (p := p) hlg' (by rw [hGo]; exact hp) h)
      have HO := Lib.hid (fun (h : ∀ p, p < own.length → okRow G p = true) => gE_ok hlg' (by rw [hGm, hGo]; exact hln) (by rw [hGo]; exact h))
      have HK := Lib.hid (fun k d l (hd : own[k]? = some d) hl => okRow_at (G := G) (k := k) (d := d) (l := l) (by rw [hGo]; exact hd) hl)
      rw [hGo] at HK
      clear hGo hGm hlg'
      have hn16 : own.length ≤ 16 := by omega
      have HLN := Lib.hid hln
      clear hlg hln
      go_enter Try.func34, Try.ntmps34
      go_wp2_with fail
      clear hW e3
      go_loopw [23] (fun i wr => ∃ k : Nat, k ≤ own.length ∧ i = .int .i64 k ∧ (∀ j, j < k → okRow G j = true) ∧ wr = W) (fun i _ => own.length - (intOf i).toNat)
      case atStart => exact ⟨0, by omega, rfl, fun j hj => by omega, rfl⟩
      case round =>
        obtain ⟨k, hk, rfl, hall, rfl⟩ := hrel
        have HA := Lib.hid hall
        clear hall
        by_cases hlt : k < own.length
        · obtain ⟨b, o, d, rfl, hd, hc⟩ := R0.out.int k hlt
          obtain ⟨b', o', A', c', l, rfl, hx, hc', hl⟩ := R1.out.row k (by have := HLN.out; omega)
          have hok := HK.out k d l hd.out (HRow.out k _ _ _ hx.out)
          have hkr : (k : Int) < (rs.length : Int) := by have := HLN.out; omega
          have hkr2 : k < rs.length := by have := HLN.out; omega
          by_cases hd01 : d = 0 ∨ d = 1
          · have ed : ((d != 0) && (d != 1)) = false := by rcases hd01 with rfl | rfl <;> rfl
            have edd : (decide (d = 0) || decide (d = 1)) = true := by rcases hd01 with rfl | rfl <;> rfl
            rw [edd, Bool.true_and] at hok
            by_cases hl0 : l.length = 0
            · have HE := Lib.hid (HB.out k hlt (by rw [hok, hl0]; rfl))
              have e4 : ((l.length : Int) == 0) = true := by rw [hl0]; rfl
              clear hok edd hl0
              rcases hd01 with rfl | rfl
              · clear ed
                go_wp2_with fail
                go_ret
                exact ⟨by rw [HE.out]; rfl, B0.out⟩
              · clear ed
                go_wp2_with fail
                go_ret
                exact ⟨by rw [HE.out]; rfl, B0.out⟩
            · have e4 : ((l.length : Int) == 0) = false := by rw [beq_eq_false_iff_ne]; omega
              rw [decide_eq_false hl0, Bool.not_false, Bool.true_and] at hok
              have HS := Lib.hid (fun w (h : Rd w w.heap.size A' (ints l)) (hn : l.length ≤ 9223372036854775807) => HV.out A' c' l own.length w h hn (by omega))
              have hll : l.length ≤ 9223372036854775807 := by have := HF.out _ (List.mem_of_getElem? hx.out); unfold maxLen at this; simp only at this; omega
              cases hs : setL own.length l
              · have HE := Lib.hid (HB.out k hlt (by rw [hok, hs]))
                rw [hs] at HS
                clear hok edd hl0 hs
                rcases hd01 with rfl | rfl
                · clear ed
                  go_wp2_with fail
                  refine (HS.out _ hl.out hll).mono ?_
                  rintro e w' ⟨rfl, rfl⟩
                  go_wp2_with fail
                  go_ret
                  exact ⟨by rw [HE.out]; rfl, B0.out⟩
                · clear ed
                  go_wp2_with fail
                  refine (HS.out _ hl.out hll).mono ?_
                  rintro e w' ⟨rfl, rfl⟩
                  go_wp2_with fail
                  go_ret
                  exact ⟨by rw [HE.out]; rfl, B0.out⟩
              · have HN := Lib.hid (okRow_next HA.out (by rw [hok, hs]))
                rw [hs] at HS
                clear hok edd hl0 hs
                rcases hd01 with rfl | rfl
                · clear ed
                  go_wp2_with fail
                  refine (HS.out _ hl.out hll).mono ?_
                  rintro e w' ⟨rfl, rfl⟩
                  go_wp2_with fail
                  go_roundw
                  case rel => exact ⟨k + 1, by omega, by go_num, HN.out, by first | rfl | trivial⟩
                  case measure => simp [intOf]; omega
                · clear ed
                  go_wp2_with fail
                  refine (HS.out _ hl.out hll).mono ?_
                  rintro e w' ⟨rfl, rfl⟩
                  go_wp2_with fail
                  go_roundw
                  case rel => exact ⟨k + 1, by omega, by go_num, HN.out, by first | rfl | trivial⟩
                  case measure => simp [intOf]; omega
          · have HE := Lib.hid (HB.out k hlt (by rw [hok, decide_eq_false (show ¬ d = 0 by omega), decide_eq_false (show ¬ d = 1 by omega)]; rfl))
            have e4 : (d != 0) = true := by rw [bne_iff_ne]; omega
            have e5 : (d != 1) = true := by rw [bne_iff_ne]; omega
            clear hok hd01
            go_wp2_with fail
            go_ret
            exact ⟨by rw [HE.out]; rfl, B0.out⟩
        · have hks : k = own.length := by omega
          subst hks
          have HE := Lib.hid (HO.out HA.out)
          go_wp2_with fail
          go_ret
          exact ⟨by rw [HE.out]; rfl, B0.out⟩
    · have e3 : ((rs.length : Int) != (own.length : Int)) = true := by rw [bne_iff_ne]; omega
      have e4 : (rs.length != own.length) = true := by rw [bne_iff_ne]; exact hln
      have HE := Lib.hid (gE_len hlg' (by rw [hGo, hGm]; exact hln))
      clear hGo hGm hlg' hlg hln
      go_enter Try.func34, Try.ntmps34
      go_wp2_with fail
      go_ret
      exact ⟨by rw [HE.out]; rfl, B0.out⟩
end Go.Proofs.Ytibcjkpfpiamkab
namespace Go.Proofs.Ytibcjkpfpiamkab
open Go.RowKit
set_option linter.unusedVariables false

theorem bdN {B : Nat} {w w' : World} (h : Below B w w') (n : Nat) : Below B w (w'.drewN n) := ⟨h.os, h.tape, h.output, h.size, h.block⟩
end Go.Proofs.Ytibcjkpfpiamkab
namespace Go.Proofs.Ytibcjkpfpiamkab
open Go.RowKit
set_option linter.unusedVariables false

/-- The error of a game and of lists that are to be sets. -/
def chkE (G : Gm) (Ls : List (List Int)) : Int := if gE G = 0 then (if Ls.all (setL G.own.length) = true then 0 else 1) else gE G
theorem chkE_one (G : Gm) (L : List Int) : chkE G [L] = askE G L := by
  unfold chkE askE
  simp
theorem chkE_bad {G : Gm} {Ls : List (List Int)} (h : ¬ gE G = 0) : chkE G Ls = gE G := if_neg h
theorem chkE_no {G : Gm} {Ls : List (List Int)} (h : gE G = 0) {k : Nat} {L : List Int} (hk : Ls[k]? = some L) (hs : setL G.own.length L = false) : chkE G Ls = 1 := by
  unfold chkE
  rw [if_pos h, if_neg]
  rw [Bool.not_eq_true, List.all_eq_false]
  exact ⟨L, List.mem_of_getElem? hk, by rw [hs]; decide⟩
theorem chkE_yes {G : Gm} {Ls : List (List Int)} (h : gE G = 0) (hs : ∀ (k : Nat) L, k < Ls.length → Ls[k]? = some L → setL G.own.length L = true) : chkE G Ls = 0 := by
  unfold chkE
  rw [if_pos h, if_pos]
  refine List.all_eq_true.2 fun L hL => ?_
  obtain ⟨k, hk, he⟩ := List.getElem_of_mem hL
  exact hs k L hk (by rw [← he]; exact List.getElem?_eq_getElem hk)
theorem all_next {p : List Int → Bool} {Ls : List (List Int)} {k : Nat} {L : List Int} (hk : Ls[k]? = some L) (h : p L = true) (ha : ∀ (j : Nat) M, j < k → Ls[j]? = some M → p M = true) : ∀ (j : Nat) M, j < k + 1 → Ls[j]? = some M → p M = true := fun j M hj hM => by
  by_cases hjk : j = k
  · subst hjk
    obtain rfl := Option.some.inj (hk.symm.trans hM)
    exact h
  · exact ha j M (by omega) hM
set_option maxRecDepth 4000 in
set_option maxHeartbeats 800000 in
theorem check_any (g : Gv) (A2 : Option Addr) (c2 : Nat) (qs : List Rw) (w : World) (hr : RdG w w.heap.size g) (hf : Gfit g) (hq : RdR w w.heap.size A2 qs) (hql : ∀ r ∈ qs, r.l.length ≤ 9223372036854775807) (hq2 : qs.length ≤ 1000) :
    Calls Try.prog 19 #[g.v, .slice A2 qs.length c2] w fun e w' => e = .returned (.int .i64 (chkE g.G (qs.map (·.l)))) ∧ Below w.heap.size w w' := by
  obtain ⟨W, hW, p0, p1, hz, hb, hr1⟩ := box_game w g 25 hr
  have RG := Lib.hid hr1
  have HV := Lib.hid (fun w h => Validate_any g w h hf)
  have HSt := Lib.hid (fun A c (L : List Int) lim w h hn hl => isSet_any A c L lim w h hn hl)
  have R2 := Lib.hid (hq.up hb)
  have B0 := Lib.hid hb
  have HQ := Lib.hid hql
  obtain ⟨A0, c0, own, A1, c1, rs⟩ := g
  simp only at hW p0 p1
  have hn0 : own.length ≤ 9223372036854775807 := by have := hf.n0; have := hf.m0; unfold maxLen at this; simp only at *; omega
  unfold Gv.v at HV ⊢
  simp only at HV ⊢
  obtain ⟨G, hG⟩ : ∃ G, Gv.G ⟨A0, c0, own, A1, c1, rs⟩ = G := ⟨_, rfl⟩
  rw [hG] at HV ⊢
  have hGo : G.own = own := by rw [← hG]; rfl
  clear hr hr1 hb hf hq hql hG
  by_cases hE : gE G = 0
  · have HN := Lib.hid (fun k L h hs => chkE_no (Ls := qs.map (·.l)) (k := k) (L := L) hE h hs)
    have HY := Lib.hid (fun hs => chkE_yes (Ls := qs.map (·.l)) hE hs)
    rw [hE] at HV
    rw [hGo] at HN HY
    clear hGo hE
    go_enter Try.func19, Try.ntmps19
    go_wp2_with fail
    refine (HV.out W RG.out).mono ?_
    rintro e w1 ⟨rfl, hb⟩
    have B1 := Lib.hid hb
    have BB := Lib.hid (B0.out.trans (hb.mono B0.out.size))
    have R3 := Lib.hid (R2.out.up hb)
    have q0 := cell_keep p0 hb hz
    clear hb p0 p1 hW
    go_wp2_with fail
    go_loopw [15] (fun i wr => ∃ k : Nat, k ≤ qs.length ∧ i = .int .i64 k ∧ (∀ (j : Nat) M, j < k → (qs.map (·.l))[j]? = some M → setL own.length M = true) ∧ wr = w1) (fun i _ => qs.length - (intOf i).toNat)
    case atStart => exact ⟨0, by omega, rfl, fun j M hj => by omega, rfl⟩
    case round =>
      obtain ⟨k, hk, rfl, hall, rfl⟩ := hrel
      have HA := Lib.hid hall
      clear hall
      by_cases hlt : k < qs.length
      · obtain ⟨b', o', A', c', l, rfl, hx, hc', hl⟩ := R3.out.row k hlt
        have hxl : (qs.map (·.l))[k]? = some l := by rw [List.getElem?_map, hx.out]; rfl
        have hll := HQ.out _ (List.mem_of_getElem? hx.out)
        simp only at hll
        have HS := Lib.hid (fun w (h : Rd w w.heap.size A' (ints l)) => HSt.out A' c' l own.length w h hll (by omega))
        cases hs : setL own.length l
        · have HE := Lib.hid (HN.out k l hxl hs)
          rw [hs] at HS
          clear hs hxl
          go_wp2_with fail
          refine (HS.out _ hl.out).mono ?_
          rintro e w' ⟨rfl, rfl⟩
          go_wp2_with fail
          go_ret
          exact ⟨by rw [HE.out]; rfl, BB.out⟩
        · have HE := Lib.hid (all_next (p := setL own.length) hxl hs HA.out)
          rw [hs] at HS
          clear hs hxl
          go_wp2_with fail
          refine (HS.out _ hl.out).mono ?_
          rintro e w' ⟨rfl, rfl⟩
          go_wp2_with fail
          go_roundw
          case rel => exact ⟨k + 1, by omega, by go_num, HE.out, by first | rfl | trivial⟩
          case measure => simp [intOf]; omega
      · have hks : k = qs.length := by omega
        subst hks
        have HE := Lib.hid (HY.out (by rw [List.length_map]; exact HA.out))
        go_wp2_with fail
        go_ret
        exact ⟨by rw [HE.out]; rfl, BB.out⟩
  · have HE := Lib.hid (chkE_bad (Ls := qs.map (·.l)) hE)
    generalize gE G = E at *
    have hb1 : (E == 0) = false := by simpa using hE
    have hb2 : (E != 0) = true := by simpa using hE
    clear hE hGo
    go_enter Try.func19, Try.ntmps19
    go_wp2_with fail
    refine (HV.out W RG.out).mono ?_
    rintro e w1 ⟨rfl, hb⟩
    have B1 := Lib.hid (B0.out.trans (hb.mono B0.out.size))
    clear hb
    go_wp2_with fail
    go_ret
    exact ⟨by rw [HE.out]; rfl, B1.out⟩
/-! ### What is forced in one move -/
theorem bitK_yes {f : Nat → Bool} {k : Nat} (h : f k = true) : bitK f (k + 1) = bitK f k + 2 ^ k := by rw [bitK, if_pos h]
theorem bitK_no {f : Nat → Bool} {k : Nat} (h : f k = false) : bitK f (k + 1) = bitK f k := by rw [bitK, if_neg (by rw [h]; decide), Nat.add_zero]
theorem pow_lt31 {k : Nat} (h : k < 31) : 2 ^ (k + 1) ≤ 2147483648 := by
  have : 2 ^ (k + 1) ≤ 2 ^ 31 := Nat.pow_le_pow_right (by omega) (by omega)
  exact this
theorem or_u32 (f : Nat → Bool) {k : Nat} (hk : k < 31) (h : f k = true) : bits .or .u32 ((bitK f k : Nat) : Int) ((2 ^ k : Nat) : Int) = ((bitK f (k + 1) : Nat) : Int) := by
  have hx := bitK_lt f k
  have h1 := Nat.two_pow_add_eq_or_of_lt hx 1
  have h2 := pow_lt31 hk
  rw [Nat.pow_succ] at h2
  rw [Nat.mul_one] at h1
  rw [bitK_yes h, u32_or_nat _ _ (by omega) (by omega), Nat.or_comm, ← h1, Nat.add_comm]
theorem or_i64 (f : Nat → Bool) {k : Nat} (hk : k < 31) (h : f k = true) : bits .or .i64 ((bitK f k : Nat) : Int) ((2 ^ k : Nat) : Int) = ((bitK f (k + 1) : Nat) : Int) := by
  rw [bitK_yes h]
  exact or_bit (bitK_lt f k) (by omega)
theorem bitK_32 (f : Nat → Bool) {k : Nat} (hk : k ≤ 31) : bitK f k < 4294967296 := by
  have h1 := bitK_lt f k
  have h2 : 2 ^ k ≤ 2 ^ 31 := Nat.pow_le_pow_right (by omega) hk
  omega
theorem mt_hit {n : Nat} {S : Nat} {L : List Int} (hs : setL n L = true) (hn : n ≤ 32) : mtB (gatN L) S = hit S L := by
  unfold mtB hit
  rw [Bool.eq_iff_iff, Bool.not_eq_true', decide_eq_false_iff_not, List.any_eq_true]
  constructor
  · intro h
    obtain ⟨j, hj⟩ := Nat.exists_testBit_of_ne_zero h
    rw [Nat.testBit_and, Bool.and_eq_true, gat_at hs hn, memB_iff] at hj
    exact ⟨(j : Int), hj.1, by rw [Int.toNat_natCast]; exact hj.2⟩
  · rintro ⟨d, hd, h⟩ h0
    have h1 := set_mem hs hd
    have : (gatN L &&& S).testBit d.toNat = true := by
      rw [Nat.testBit_and, gat_at hs hn, memB_iff.2 (by rwa [show ((d.toNat : Nat) : Int) = d by omega]), h]
      rfl
    rw [h0] at this
    simp at this
theorem li_sub {x y : Nat} (hx : x < 4294967296) (hy : y < 4294967296) : liB x y = true ↔ sub x y := by
  unfold liB
  rw [decide_eq_true_eq]
  have hc : ∀ j, j < 32 → (4294967295 - y).testBit j = !y.testBit j := fun j hj => by
    rw [show (4294967295 - y) = 2 ^ 32 - (y + 1) by omega, Nat.testBit_two_pow_sub_succ hy]
    simp [hj]
  constructor
  · intro h j hj
    have hj32 := bit_in (n := 32) hx hj
    have h1 : (x &&& (4294967295 - y)).testBit j = false := by rw [h]; exact Nat.zero_testBit j
    rw [Nat.testBit_and, hj, hc j hj32, Bool.true_and] at h1
    simpa using h1
  · intro h
    apply Nat.eq_of_testBit_eq
    intro j
    rw [Nat.zero_testBit, Nat.testBit_and]
    cases hj : x.testBit j
    · rfl
    · rw [hc j (bit_in (n := 32) hx hj), h j hj]
      rfl
theorem li_inn {n S : Nat} {L : List Int} (hs : setL n L = true) (hn : n ≤ 32) (hS : S < 4294967296) : liB (gatN L) S = inn S L := by
  rw [Bool.eq_iff_iff, li_sub (show gatN L < 4294967296 from bit32 _) hS]
  unfold inn
  rw [List.all_eq_true]
  constructor
  · intro h d hd
    have h1 := set_mem hs hd
    refine h _ ?_
    rw [gat_at hs hn, memB_iff, show ((d.toNat : Nat) : Int) = d by omega]
    exact hd
  · intro h j hj
    rw [gat_at hs hn, memB_iff] at hj
    have := h _ hj
    rwa [Int.toNat_natCast] at this
theorem fcB_at {G : Gm} {b d : Int} {S k : Nat} {l : List Int} (hd : G.own[k]? = some d) (hl : G.row k = l) : fcB G b S k = (if d = b then hit S l else inn S l) := by
  unfold fcB
  rw [who_at hd, hl]
set_option maxRecDepth 4000 in
set_option maxHeartbeats 1600000 in
theorem forced_any (g : Gv) (b : Int) (S : Nat) (w : World) (hr : RdG w w.heap.size g) (hf : Gfit g) (hE : gE g.G = 0) (hS : S < 4294967296) :
    Calls Try.prog 27 #[g.v, .int .i64 b, .int .u32 S] w fun e w' => e = .returned (.int .u32 (fcN g.G b S : Nat)) ∧ Below w.heap.size w w' := by
  obtain ⟨W, hW, p0, p1, hz, hb, hr1⟩ := box_game w g 25 hr
  have HF := Lib.hid hf.rs
  obtain ⟨A0, c0, own, A1, c1, rs⟩ := g
  have R0 := Lib.hid (show Rd W W.heap.size A0 (ints own) from hr1.o)
  have R1 := Lib.hid (show RdR W W.heap.size A1 rs from hr1.r)
  have B0 := Lib.hid hb
  simp only at hW p0 p1
  unfold Gv.v
  simp only
  have H := gE_zero hE
  obtain ⟨G, hG⟩ : ∃ G, Gv.G ⟨A0, c0, own, A1, c1, rs⟩ = G := ⟨_, rfl⟩
  rw [hG] at H ⊢
  have hGo : G.own = own := by rw [← hG]; rfl
  have hGm : G.mv.length = rs.length := by rw [← hG]; simp [Gv.G]
  have HRow := Lib.hid (fun k A c l (h : rs[k]? = some ⟨A, c, l⟩) => (show G.row k = l by rw [← hG]; exact row_of h))
  have HLN := Lib.hid (show rs.length = own.length by rw [← hGm, ← hGo]; exact H.len)
  have hn16 : own.length ≤ 16 := by rw [← hGo]; exact H.le
  have HSet := Lib.hid (fun k (hk : k < own.length) => H.set (p := k) (by rw [hGo]; exact hk))
  have HK := Lib.hid (fun k d l (hd : own[k]? = some d) hl => fcB_at (G := G) (b := b) (S := S) (k := k) (d := d) (l := l) (by rw [hGo]; exact hd) hl)
  rw [hGo] at HSet
  have HE := Lib.hid (show fcN G b S = bitK (fcB G b S) own.length by unfold fcN; rw [hGo])
  clear hr hr1 hb hf hE H hGo hGm hG
  go_enter Try.func27, Try.ntmps27
  go_wp2_with fail
  clear hW
  go_loopw [7, 14] (fun v i wr => ∃ k : Nat, k ≤ own.length ∧ i = .int .i64 k ∧ v = .int .u32 (bitK (fcB G b S) k : Nat) ∧ wr = W) (fun _ i _ => own.length - (intOf i).toNat)
  case atStart => exact ⟨0, by omega, rfl, rfl, rfl⟩
  case round =>
    obtain ⟨k, hk, rfl, rfl, rfl⟩ := hrel
    by_cases hlt : k < own.length
    · obtain ⟨b', o, d, rfl, hd, hc⟩ := R0.out.int k hlt
      obtain ⟨b2, o', A', c', l, rfl, hx, hc', hl⟩ := R1.out.row k (by have := HLN.out; omega)
      have hkr : (k : Int) < (rs.length : Int) := by have := HLN.out; omega
      have hkr2 : k < rs.length := by have := HLN.out; omega
      have hrow := HRow.out k _ _ _ hx.out
      have hset : setL own.length l = true := by rw [← hrow]; exact HSet.out k hlt
      have hfc := HK.out k d l hd.out hrow
      have hll : l.length ≤ 9223372036854775807 := by have := HF.out _ (List.mem_of_getElem? hx.out); unfold maxLen at this; simp only at this; omega
      have HG := Lib.hid (fun w h => gather_any A' c' l own.length w h hll hset (by omega))
      have HM := Lib.hid (fun w => meets_any (gatN l) S w (bit32 _) hS)
      have HL := Lib.hid (fun w => liesIn_any (gatN l) S w (bit32 _) hS)
      rw [mt_hit hset (by omega)] at HM
      rw [li_inn hset (by omega) hS] at HL
      have hgl : gatN l < 4294967296 := bit32 _
      have HSh := Lib.hid (shl_u32 (k := k) (by omega))
      have HYes := Lib.hid (fun h => or_u32 (fcB G b S) (k := k) (by omega) h)
      have HNo := Lib.hid (fun h => bitK_no (f := fcB G b S) (k := k) h)
      have hbl := bitK_32 (fcB G b S) (k := k) (by omega)
      have b0 : (0 : Int) ≤ (k : Int) := by omega
      have b1 : (k : Int) < 32 := by omega
      clear hset hrow
      by_cases hdb : d = b
      · subst hdb
        rw [if_pos rfl] at hfc
        have e1 : (d == d) = true := beq_self_eq_true d
        have e2 : (d != d) = false := by simp
        cases hh : hit S l
        · rw [hh] at hfc HM
          have HN := Lib.hid (HNo.out hfc)
          clear hfc hh
          generalize bitK (fcB G d S) k = F at *
          generalize gatN l = T at *
          go_wp2_with fail
          refine (HG.out _ hl.out).mono ?_
          rintro e w' ⟨rfl, rfl⟩
          go_wp2_with fail
          refine (HM.out _).mono ?_
          rintro e w' ⟨rfl, rfl⟩
          go_wp2_with fail
          go_roundw
          case rel => exact ⟨k + 1, by omega, by go_num, by rw [HN.out], by first | rfl | trivial⟩
          case measure => simp [intOf]; omega
        · rw [hh] at hfc HM
          have HN := Lib.hid (HYes.out hfc)
          clear hfc hh
          generalize bitK (fcB G d S) k = F at *
          generalize gatN l = T at *
          go_wp2_with fail
          refine (HG.out _ hl.out).mono ?_
          rintro e w' ⟨rfl, rfl⟩
          go_wp2_with fail
          refine (HM.out _).mono ?_
          rintro e w' ⟨rfl, rfl⟩
          go_wp2_with fail
          go_roundw
          case rel => exact ⟨k + 1, by omega, by go_num, by rw [HSh.out, HN.out], by first | rfl | trivial⟩
          case measure => simp [intOf]; omega
      · rw [if_neg hdb] at hfc
        have e1 : (d == b) = false := by simpa using hdb
        have e2 : (d != b) = true := by simpa using hdb
        cases hh : inn S l
        · rw [hh] at hfc HL
          have HN := Lib.hid (HNo.out hfc)
          clear hfc hh hdb
          generalize bitK (fcB G b S) k = F at *
          generalize gatN l = T at *
          go_wp2_with fail
          refine (HG.out _ hl.out).mono ?_
          rintro e w' ⟨rfl, rfl⟩
          go_wp2_with fail
          refine (HL.out _).mono ?_
          rintro e w' ⟨rfl, rfl⟩
          go_wp2_with fail
          go_roundw
          case rel => exact ⟨k + 1, by omega, by go_num, by rw [HN.out], by first | rfl | trivial⟩
          case measure => simp [intOf]; omega
        · rw [hh] at hfc HL
          have HN := Lib.hid (HYes.out hfc)
          clear hfc hh hdb
          generalize bitK (fcB G b S) k = F at *
          generalize gatN l = T at *
          go_wp2_with fail
          refine (HG.out _ hl.out).mono ?_
          rintro e w' ⟨rfl, rfl⟩
          go_wp2_with fail
          refine (HL.out _).mono ?_
          rintro e w' ⟨rfl, rfl⟩
          go_wp2_with fail
          go_roundw
          case rel => exact ⟨k + 1, by omega, by go_num, by rw [HSh.out, HN.out], by first | rfl | trivial⟩
          case measure => simp [intOf]; omega
    · have hks : k = own.length := by omega
      subst hks
      go_wp2_with fail
      go_ret
      exact ⟨by rw [HE.out]; rfl, B0.out⟩
end Go.Proofs.Ytibcjkpfpiamkab

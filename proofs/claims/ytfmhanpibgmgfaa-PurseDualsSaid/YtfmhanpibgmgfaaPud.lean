/-
  The search for pays and balances: the walks of leaves and choose. Conditions: numbers that are not too great.
-/
import Derived.Test.YtfmhanpibgmgfaaPuc
import Derived.Deep.RegionLaw
namespace Go.Proofs.Ytfmhanpibgmgfaa
open Go.RowKit
set_option linter.unusedVariables false

/-- The chosen group that leaves, among the first k; -1 if none does. -/
def lvF (R : Nat → Nat → Int) (ch : Nat → Int) (l1 g : Nat) : Nat → Int
  | 0 => -1
  | k + 1 => if 0 < R k g ∧ (lvF R ch l1 g k < 0 ∨ cmpS R ch l1 k (lvF R ch l1 g k).toNat g < 0) then (k : Int) else lvF R ch l1 g k
theorem lvF_lt (R : Nat → Nat → Int) (ch : Nat → Int) (l1 g : Nat) : ∀ k, lvF R ch l1 g k < (k : Int) ∧ -1 ≤ lvF R ch l1 g k
  | 0 => by simp [lvF]
  | k + 1 => by
    have := lvF_lt R ch l1 g k
    unfold lvF
    split <;> omega
set_option maxRecDepth 8000 in
set_option maxHeartbeats 4000000 in
theorem leaves_any {B ps n L : Nat} {den : Int} {ch : Nat → Int} {R : Nat → Nat → Int} {E : Nat → Int} (g : Nat) (hg : g < L) (hn : n ≤ 5) (hL0 : 1 ≤ L) (hL : L ≤ 32) (hsm : ∀ k p, k < n → p < L → Sm (R k p)) (w : World) (h : StP w B ps n L den ch R E) :
    Calls Try.prog 112 #[.pointer (some ⟨ps, 0, none⟩), .int .i64 (g : Int)] w fun e w' => e = .returned (.int .i64 (lvF R ch (L - 1) g n)) ∧ Below w.heap.size w w' := by
  have HUp := Lib.hid (fun (w5 : World) (hb : Below w.heap.size w w5) => Nonempty.intro (h.up hb))
  have HCo := Lib.hid (fun k j (hk : k < n) (hj : j < n) (w : World) (h : Nonempty (StP w B ps n L den ch R E)) => compare_any k j g hk hj hg hn hL0 hL hsm w (Classical.choice h))
  obtain ⟨gc, cc, gp, cp, ge, ce, curc, curp, G, C, hs, hc, hcv, hp, hpv, hgr, he, d1, d2, d3, d4, d5, d6, bs, bc, bp⟩ := h
  have c2 : w.cell? ⟨ps, 2, none⟩ = some (.slice (some ⟨gp, 0, none⟩) n cp) := blk_cell hs
  have HP := Lib.hid hp
  have HPV := Lib.hid hpv
  have HG := Lib.hid (fun k hk => (hgr k hk).1)
  have hgp := lt_of_block' hp
  have b4 : (0 : Int) ≤ (g : Int) := by omega
  have b5 : (g : Int) < (L : Int) := by omega
  have HLv := Lib.hid (fun k => lvF_lt R ch (L - 1) g k)
  have HNx := Lib.hid (fun k => show lvF R ch (L - 1) g (k + 1) = if 0 < R k g ∧ (lvF R ch (L - 1) g k < 0 ∨ cmpS R ch (L - 1) k (lvF R ch (L - 1) g k).toNat g < 0) then (k : Int) else lvF R ch (L - 1) g k from rfl)
  have HN0 := Lib.hid (show lvF R ch (L - 1) g 0 = -1 from rfl)
  generalize lvF R ch (L - 1) g = lv at *
  clear hs hc hcv hp hpv hgr he d1 d2 d3 d4 d5 d6 bs bc bp hsm
  go_enter Try.func112, Try.ntmps112
  go_wp2_with fail
  go_loopw [5, 13] (fun u z wr => ∃ k : Nat, k ≤ n ∧ u = .int .i64 (lv k) ∧ z = .int .i64 (k : Int) ∧ Below w.heap.size w wr) (fun _ z _ => n - (intOf z).toNat)
  case atStart => exact ⟨0, by omega, by rw [HN0.out], rfl, Below.refl _ _⟩
  case round =>
    obtain ⟨k, hk, rfl, rfl, hb⟩ := hrel
    have HB := Lib.hid hb
    by_cases hlt : k < n
    · have k2 : wr.cell? ⟨ps, 2, none⟩ = some (.slice (some ⟨gp, 0, none⟩) n cp) := (hb.cell (p := ⟨ps, 2, none⟩) (World.block_lt_of_cell? w _ c2)).trans c2
      have k4 : wr.cell? ⟨gp, k, none⟩ = some (.slice (some ⟨G k, 0, none⟩) L (C k)) := (hb.cell (p := ⟨gp, k, none⟩) hgp).trans ((blk_cell HP.out).trans (HPV.out k hlt))
      have k6 : wr.cell? ⟨G k, g, none⟩ = some (.int .i64 (R k g)) := (hb.cell (p := ⟨G k, g, none⟩) (lt_of_block' (HG.out k hlt))).trans ((blk_cell (HG.out k hlt)).trans (rowF_at hg))
      have b0 : (0 : Int) ≤ (k : Int) := by omega
      have b1 : (k : Int) < (n : Int) := by omega
      have HN1 := Lib.hid (HNx.out k)
      have hl2 := HLv.out k
      clear hb
      by_cases h1 : 0 < R k g
      · have e1 : decide (0 < R k g) = true := decide_eq_true h1
        by_cases h2 : lv k < 0
        · have e2 : decide (lv k < 0) = true := decide_eq_true h2
          have HZ := Lib.hid (show lv (k + 1) = (k : Int) by rw [HN1.out, if_pos ⟨h1, .inl h2⟩])
          clear h1 h2 hl2
          generalize R k g = y at *
          go_wp2_with fail
          go_roundw
          case rel => exact ⟨k + 1, by omega, by rw [HZ.out], by go_num, HB.out⟩
          case measure => simp [intOf]; omega
        · have e2 : decide (lv k < 0) = false := decide_eq_false h2
          obtain ⟨j, hj⟩ : ∃ j : Nat, lv k = (j : Int) := ⟨(lv k).toNat, by omega⟩
          have hjn : j < n := by omega
          have HC := Lib.hid (HCo.out k j hlt hjn wr (HUp.out wr HB.out))
          have HN2 := Lib.hid (show lv (k + 1) = if cmpS R ch (L - 1) k j g < 0 then (k : Int) else (j : Int) by
            rw [HN1.out, hj, Int.toNat_natCast]
            by_cases h3 : cmpS R ch (L - 1) k j g < 0
            · rw [if_pos ⟨h1, .inr h3⟩, if_pos h3]
            · rw [if_neg (by rintro ⟨_, h4 | h4⟩; omega; exact h3 h4), if_neg h3])
          rw [hj] at e2 ⊢
          have e2' : decide ((j : Int) < 0) = false := decide_eq_false (by omega)
          generalize cmpS R ch (L - 1) k j g = r at *
          generalize R k g = y at *
          clear h1 h2 hl2 hj
          by_cases h3 : r < 0
          · have e3 : decide (r < 0) = true := decide_eq_true h3
            rw [if_pos h3] at HN2
            clear h3
            go_wp2_with fail
            refine HC.out.mono ?_
            rintro e w4 ⟨rfl, hb2⟩
            have HB2 := Lib.hid (HB.out.trans (hb2.mono HB.out.size))
            clear hb2
            go_wp2_with fail
            go_roundw
            case rel => exact ⟨k + 1, by omega, by rw [HN2.out], by go_num, HB2.out⟩
            case measure => simp [intOf]; omega
          · have e3 : decide (r < 0) = false := decide_eq_false h3
            rw [if_neg h3] at HN2
            clear h3
            go_wp2_with fail
            refine HC.out.mono ?_
            rintro e w4 ⟨rfl, hb2⟩
            have HB2 := Lib.hid (HB.out.trans (hb2.mono HB.out.size))
            clear hb2
            go_wp2_with fail
            go_roundw
            case rel => exact ⟨k + 1, by omega, by rw [HN2.out], by go_num, HB2.out⟩
            case measure => simp [intOf]; omega
      · have e1 : decide (0 < R k g) = false := decide_eq_false h1
        have HZ := Lib.hid (show lv (k + 1) = lv k by rw [HN1.out, if_neg (fun h => h1 h.1)])
        clear h1 hl2
        generalize R k g = y at *
        go_wp2_with fail
        go_roundw
        case rel => exact ⟨k + 1, by omega, by rw [HZ.out], by go_num, HB.out⟩
        case measure => simp [intOf]; omega
    · have hkn : k = n := by omega
      subst hkn
      clear hb hlt
      go_wp2_with fail
      go_ret
      exact ⟨rfl, HB.out⟩
/-! ### A group is chosen for another one. -/
def nxR (R : Nat → Nat → Int) (den : Int) (o g : Nat) (k : Nat) : Nat → Int := if k = o then R o else wtoF (R k) (R o) g den
def nxE (R : Nat → Nat → Int) (E : Nat → Int) (den : Int) (o g : Nat) : Nat → Int := wtoF E (R o) g den
def nxC (ch : Nat → Int) (o g : Nat) (k : Nat) : Int := if k = o then (g : Int) else ch k
def parR (R : Nat → Nat → Int) (den : Int) (o g j k : Nat) : Nat → Int := if k < j then nxR R den o g k else R k
theorem parR_next (R : Nat → Nat → Int) (den : Int) (o g j : Nat) : parR R den o g (j + 1) = fun k => if k = j then nxR R den o g j else parR R den o g j k := by
  funext k
  unfold parR
  by_cases e : k = j
  · subst e
    rw [if_pos (Nat.lt_succ_self k), if_pos rfl]
  · rw [if_neg e]
    by_cases h : k < j
    · rw [if_pos h, if_pos (by omega)]
    · rw [if_neg h, if_neg (by omega)]
theorem parR_nextk (R : Nat → Nat → Int) (den : Int) (o g j k : Nat) : parR R den o g (j + 1) k = if k = j then nxR R den o g j else parR R den o g j k := congrFun (parR_next R den o g j) k
def StP.congr {w : World} {B ps n L : Nat} {den : Int} {ch ch' : Nat → Int} {R R' : Nat → Nat → Int} {E : Nat → Int} (h : StP w B ps n L den ch R E) (hR : ∀ k, k < n → R k = R' k) (hc : ∀ k, k < n → ch k = ch' k) : StP w B ps n L den ch' R' E :=
  { h with
    hcv := fun k hk => by rw [← hc k hk]; exact h.hcv k hk
    hg := fun k hk => by rw [← hR k hk]; exact h.hg k hk }
/-- Another row is stored. -/
theorem StP.setRow {w w' : World} {B ps n L i g c : Nat} {den : Int} {ch : Nat → Int} {R : Nat → Nat → Int} {E F : Nat → Int} (h : StP w B ps n L den ch R E) (hb : Below w.heap.size w w') (hi : i < n) (hg : w.heap.size ≤ g) (hr : RowB w' g L F) :
    ∃ h' : StP (w'.setCell ⟨h.gp, i, none⟩ (.slice (some ⟨g, 0, none⟩) L c)) B ps n L den ch (fun k => if k = i then F else R k) E, h'.gp = h.gp ∧ h'.cp = h.cp ∧ h'.gc = h.gc := by
  have u := h.up hb
  have l1 := lt_of_block' h.hs
  have l2 := lt_of_block' h.hc
  have l3 := lt_of_block' h.hp
  have off : ∀ b, b ≠ h.gp → (w'.setCell ⟨h.gp, i, none⟩ (.slice (some ⟨g, 0, none⟩) L c)).heap[b]? = w'.heap[b]? := fun b hne => Below.heap_setCell _ _ _ b hne
  refine ⟨{ h with
    curp := h.curp.setIfInBounds i (.slice (some ⟨g, 0, none⟩) L c)
    G := fun k => if k = i then g else h.G k
    C := fun k => if k = i then c else h.C k
    hs := (off _ (Ne.symm h.d5)).trans ((hb.block _ l1).trans h.hs)
    hc := (off _ h.d6).trans ((hb.block _ l2).trans h.hc)
    hp := blk_set ((hb.block _ l3).trans h.hp) i _
    hpv := fun k hk => ?_
    hg := fun k hk => ?_
    he := (off _ h.d3).trans ((hb.block _ (lt_of_block' h.he)).trans h.he) }, rfl, rfl, rfl⟩
  · have hks := (Array.getElem?_eq_some_iff.1 (h.hpv k hk)).1
    rw [Array.getElem?_setIfInBounds]
    by_cases e : i = k
    · subst e
      simp [hks]
    · have e' : ¬ k = i := fun e2 => e e2.symm
      rw [if_neg e]
      simp only [if_neg e']
      exact h.hpv k hk
  · by_cases e : k = i
    · subst e
      simp only [if_true]
      exact ⟨(off g (by omega)).trans hr, by omega, by omega, by omega⟩
    · simp only [if_neg e]
      obtain ⟨h1, h2, h3, h4⟩ := h.hg k hk
      exact ⟨(off _ h4).trans ((hb.block _ (lt_of_block' h1)).trans h1), h2, h3, h4⟩
/-- The excesses, the chosen group and the denominator are stored. -/
theorem StP.setRest {w w' : World} {B ps n L o g gv c : Nat} {den den' : Int} {ch : Nat → Int} {R : Nat → Nat → Int} {E F : Nat → Int} (h : StP w B ps n L den ch R E) (hb : Below w.heap.size w w') (ho : o < n) (hg : w.heap.size ≤ g) (hr : RowB w' g L F) :
    Nonempty (StP (((w'.setCell ⟨ps, 3, none⟩ (.slice (some ⟨g, 0, none⟩) L c)).setCell ⟨h.gc, o, none⟩ (.int .i64 (gv : Int))).setCell ⟨ps, 0, none⟩ (.int .i64 den')) B ps n L den' (nxC ch o gv) R F) := by
  have l1 := lt_of_block' h.hs
  have l2 := lt_of_block' h.hc
  have l3 := lt_of_block' h.hp
  obtain ⟨w1, hw1⟩ : ∃ w1, w'.setCell ⟨ps, 3, none⟩ (.slice (some ⟨g, 0, none⟩) L c) = w1 := ⟨_, rfl⟩
  have off1 : ∀ b, b ≠ ps → w1.heap[b]? = w'.heap[b]? := fun b hne => by rw [← hw1]; exact Below.heap_setCell _ _ _ b hne
  have s1 : w1.heap[ps]? = some (.cells #[.int .i64 den, .slice (some ⟨h.gc, 0, none⟩) n h.cc, .slice (some ⟨h.gp, 0, none⟩) n h.cp, .slice (some ⟨g, 0, none⟩) L c] 82 (0, 0)) := by
    rw [← hw1, blk_set ((hb.block _ l1).trans h.hs) 3 _]
    rfl
  rw [hw1]
  obtain ⟨w2, hw2⟩ : ∃ w2, w1.setCell ⟨h.gc, o, none⟩ (.int .i64 (gv : Int)) = w2 := ⟨_, rfl⟩
  have off2 : ∀ b, b ≠ h.gc → w2.heap[b]? = w1.heap[b]? := fun b hne => by rw [← hw2]; exact Below.heap_setCell _ _ _ b hne
  have c2 : w2.heap[h.gc]? = some (.cells (h.curc.setIfInBounds o (.int .i64 (gv : Int))) 3 (0, 0)) := by
    rw [← hw2]
    exact blk_set ((off1 _ h.d4).trans ((hb.block _ l2).trans h.hc)) o _
  rw [hw2]
  have off3 : ∀ b, b ≠ ps → (w2.setCell ⟨ps, 0, none⟩ (.int .i64 den')).heap[b]? = w2.heap[b]? := fun b hne => Below.heap_setCell _ _ _ b hne
  have key : ∀ b, b ≠ ps → b ≠ h.gc → (w2.setCell ⟨ps, 0, none⟩ (.int .i64 den')).heap[b]? = w'.heap[b]? := fun b h1 h2 => (off3 b h1).trans ((off2 b h2).trans (off1 b h1))
  refine ⟨{ h with
    ge := g
    ce := c
    curc := h.curc.setIfInBounds o (.int .i64 (gv : Int))
    hs := by
      have := blk_set ((off2 _ (Ne.symm h.d4)).trans s1) 0 (.int .i64 den')
      rw [this]
      rfl
    hc := (off3 _ h.d4).trans c2
    hcv := fun k hk => ?_
    hp := (key _ h.d5 (Ne.symm h.d6)).trans ((hb.block _ l3).trans h.hp)
    hg := fun k hk => ?_
    he := (key g (by omega) (by omega)).trans hr
    d1 := by omega
    d2 := by omega
    d3 := by omega }⟩
  · have hks := (Array.getElem?_eq_some_iff.1 (h.hcv k hk)).1
    rw [Array.getElem?_setIfInBounds]
    unfold nxC
    by_cases e : o = k
    · subst e
      simp [hks]
    · have e' : ¬ k = o := fun e2 => e e2.symm
      rw [if_neg e, if_neg e']
      exact h.hcv k hk
  · obtain ⟨h1, h2, h3, h4⟩ := h.hg k hk
    exact ⟨(key _ h2 h3).trans ((hb.block _ (lt_of_block' h1)).trans h1), h2, h3, h4⟩
end Go.Proofs.Ytfmhanpibgmgfaa

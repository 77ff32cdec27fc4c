/-
  The search for pays and balances: the walk of choose. Conditions: numbers that are not too great; a group leaves.
-/
import Derived.Test.YtfmhanpibgmgfaaPud
namespace Go.Proofs.Ytfmhanpibgmgfaa
open Go.RowKit
set_option linter.unusedVariables false

set_option maxRecDepth 8000 in
set_option maxHeartbeats 8000000 in
theorem choose_any {B ps n L : Nat} {den : Int} {ch : Nat → Int} {R : Nat → Nat → Int} {E : Nat → Int} (g o : Nat) (hg : g < L) (ho : o < n) (hlv : lvF R ch (L - 1) g n = (o : Int)) (hn : n ≤ 5) (hL0 : 1 ≤ L) (hL : L ≤ 32) (hsm : ∀ k p, k < n → p < L → Sm (R k p)) (hse : ∀ p, p < L → Sm (E p)) (hd : den ≠ 0) (w : World) (h : StP w B ps n L den ch R E) :
    Calls Try.prog 102 #[.pointer (some ⟨ps, 0, none⟩), .int .i64 (g : Int)] w fun e w' => (∃ v, e = .returned v) ∧ Nonempty (StP w' B ps n L (R o g) (nxC ch o g) (nxR R den o g) (nxE R E den o g)) ∧ Below B w w' := by
  have HLe := Lib.hid (leaves_any g hg hn hL0 hL hsm w h)
  rw [hlv] at HLe
  have HUp := fun (w5 : World) (hb : Below w.heap.size w w5) => h.up hb
  have hBw : B ≤ w.heap.size := Nat.le_trans h.bs (Nat.le_of_lt (lt_of_block' h.hs))
  have HSm := Lib.hid hsm
  have HSe := Lib.hid hse
  clear hlv hsm hse
  have b4 : (0 : Int) ≤ (g : Int) := by omega
  have b5 : (g : Int) < (L : Int) := by omega
  have b6 : (0 : Int) ≤ (o : Int) := by omega
  have b7 : (o : Int) < (n : Int) := by omega
  go_enter Try.func102, Try.ntmps102
  go_wp2_with fail
  refine HLe.out.mono ?_
  rintro e w1 ⟨rfl, hb1⟩
  have h1 := HUp w1 hb1
  have HB1 := Lib.hid (hb1.mono hBw)
  have hB1 : B ≤ w1.heap.size := Nat.le_trans hBw hb1.size
  clear hb1 h HUp
  obtain ⟨gp, hgp⟩ : ∃ gp, h1.gp = gp := ⟨_, rfl⟩
  obtain ⟨cp, hcp⟩ : ∃ cp, h1.cp = cp := ⟨_, rfl⟩
  obtain ⟨gc, hgc⟩ : ∃ gc, h1.gc = gc := ⟨_, rfl⟩
  obtain ⟨go, hgo⟩ : ∃ go, h1.G o = go := ⟨_, rfl⟩
  obtain ⟨co, hco⟩ : ∃ co, h1.C o = co := ⟨_, rfl⟩
  have m2 : w1.cell? ⟨ps, 2, none⟩ = some (.slice (some ⟨gp, 0, none⟩) n cp) := by rw [← hgp, ← hcp]; exact blk_cell h1.hs
  have m4 : w1.cell? ⟨gp, o, none⟩ = some (.slice (some ⟨go, 0, none⟩) L co) := by rw [← hgp, ← hgo, ← hco]; exact (blk_cell h1.hp).trans (h1.hpv o ho)
  have HRo := Lib.hid (show RowB w1 go L (R o) ∧ go ≠ ps ∧ go ≠ gp ∧ go ≠ gc by rw [← hgo, ← hgp, ← hgc]; exact ⟨(h1.hg o ho).1, (h1.hg o ho).2.1, (h1.hg o ho).2.2.2, (h1.hg o ho).2.2.1⟩)
  have HS1 := Lib.hid (show ∃ h : StP w1 B ps n L den ch (parR R den o g 0) E, h.gp = gp ∧ h.cp = cp ∧ h.gc = gc from ⟨h1.congr (fun k _ => (if_neg (by omega)).symm) (fun _ _ => rfl), hgp, hcp, hgc⟩)
  clear h1 hgp hcp hgc hgo hco
  go_wp2_with fail
  go_loopw [23] (fun z wr => ∃ j : Nat, j ≤ n ∧ z = .int .i64 (j : Int) ∧ (∃ h : StP wr B ps n L den ch (parR R den o g j) E, h.gp = gp ∧ h.cp = cp ∧ h.gc = gc) ∧ RowB wr go L (R o) ∧ Below B w wr) (fun z _ => n - (intOf z).toNat)
  case atStart => exact ⟨0, by omega, rfl, HS1.out, HRo.out.1, HB1.out⟩
  case round =>
    obtain ⟨j, hj, rfl, ⟨h, hgp, hcp, hgc⟩, hro, hb⟩ := hrel
    have HB := Lib.hid hb
    have HRr := Lib.hid hro
    clear hb
    by_cases hlt : j < n
    · have b0 : (0 : Int) ≤ (j : Int) := by omega
      have b1 : (j : Int) < (n : Int) := by omega
      have k2 : wr.cell? ⟨ps, 2, none⟩ = some (.slice (some ⟨gp, 0, none⟩) n cp) := by rw [← hgp, ← hcp]; exact blk_cell h.hs
      have k0 : wr.cell? ⟨ps, 0, none⟩ = some (.int .i64 den) := blk_cell h.hs
      obtain ⟨gj, hgj⟩ : ∃ gj, h.G j = gj := ⟨_, rfl⟩
      obtain ⟨cj, hcj⟩ : ∃ cj, h.C j = cj := ⟨_, rfl⟩
      have kv : h.curp[j]? = some (.slice (some ⟨gj, 0, none⟩) L cj) := by rw [← hgj, ← hcj]; exact h.hpv j hlt
      have k4 : wr.cell? ⟨gp, j, none⟩ = some (.slice (some ⟨gj, 0, none⟩) L cj) := by rw [← hgp]; exact (blk_cell h.hp).trans kv
      by_cases hjo : j = o
      · have e1 : ((j : Int) != (o : Int)) = false := by rw [hjo]; simp
        have e1' : (j != o) = false := by rw [hjo]; simp
        have HZ := Lib.hid (show ∃ h : StP wr B ps n L den ch (parR R den o g (j + 1)) E, h.gp = gp ∧ h.cp = cp ∧ h.gc = gc from ⟨h.congr (fun k _ => by
          rw [parR_nextk]
          by_cases e : k = j
          · rw [if_pos e, e]
            unfold parR nxR
            rw [if_neg (by omega), if_pos hjo, hjo]
          · rw [if_neg e]) (fun _ _ => rfl), hgp, hcp, hgc⟩)
        clear h hgp hcp hgc hgj hcj kv hro hjo k0
        go_wp2_with fail
        go_roundw
        case rel => exact ⟨j + 1, by omega, by go_num, HZ.out, HRr.out, HB.out⟩
        case measure => simp [intOf]; omega
      · have e1 : ((j : Int) != (o : Int)) = true := by rw [bne_iff_ne]; omega
        have e1' : (j != o) = true := by rw [bne_iff_ne]; exact hjo
        have hRj : RowB wr gj L (R j) := by
          rw [← hgj]
          have := (h.hg j hlt).1
          have e : parR R den o g j j = R j := if_neg (by omega)
          rwa [e] at this
        have HWo := Lib.hid (fun (W : World) (hp : W.cell? ⟨ps, 0, none⟩ = some (.int .i64 den)) h1 h2 => without_any ps gj cj go co L g den (R j) (R o) hg (by omega) (fun p hp => HSm.out j p hlt hp) (fun p hp => HSm.out o p ho hp) hd W hp h1 h2)
        have HRj := Lib.hid (show RowB wr.drew gj L (R j) from hRj)
        have HRod := Lib.hid (show RowB wr.drew go L (R o) from hro)
        have HH1 := Lib.hid (show wr.drew.heap[gp]? = some (.cells h.curp 22 (0, 0)) by rw [← hgp]; exact h.hp)
        have hszd : gp < wr.drew.heap.size := lt_of_block' HH1.out
        have k0d : wr.drew.cell? ⟨ps, 0, none⟩ = some (.int .i64 den) := k0
        have K0d := Lib.hid k0d
        have hpsd : ps < wr.drew.heap.size := World.block_lt_of_cell? wr.drew _ k0d
        have K2d := Lib.hid (show wr.drew.cell? ⟨ps, 2, none⟩ = some (.slice (some ⟨gp, 0, none⟩) n cp) from k2)
        have KV := Lib.hid kv
        have hNext := fun (w2 : World) (gg : Nat) (hgs : wr.drew.heap.size ≤ gg) (hg2 : RowB w2 gg L (wtoF (R j) (R o) g den)) (hb2 : Below wr.drew.heap.size wr.drew w2) => StP.setRow (h.up (Below.refl _ _).drew) hb2 hlt hgs hg2 (c := L)
        have HNext := Lib.hid (fun (w2 : World) (gg : Nat) (hgs : wr.drew.heap.size ≤ gg) (hg2 : RowB w2 gg L (wtoF (R j) (R o) g den)) (hb2 : Below wr.drew.heap.size wr.drew w2) => show ∃ h : StP (w2.setCell ⟨gp, j, none⟩ (.slice (some ⟨gg, 0, none⟩) L L)) B ps n L den ch (parR R den o g (j + 1)) E, h.gp = gp ∧ h.cp = cp ∧ h.gc = gc by
          obtain ⟨h', q1, q2, q3⟩ := hNext w2 gg hgs hg2 hb2
          have q0 : (h.up (Below.refl wr.heap.size wr).drew).gp = gp := hgp
          have q9 : (h.up (Below.refl wr.heap.size wr).drew).cp = cp := hcp
          have q8 : (h.up (Below.refl wr.heap.size wr).drew).gc = gc := hgc
          revert h' q1 q2 q3
          rw [q0, q9, q8]
          intro h' q1 q2 q3
          refine ⟨h'.congr (fun k _ => ?_) (fun _ _ => rfl), q1, q2, q3⟩
          rw [parR_nextk]
          by_cases e : k = j
          · rw [if_pos e, if_pos e]
            unfold nxR
            rw [if_neg hjo]
          · rw [if_neg e, if_neg e])
        have hBr : B ≤ wr.drew.heap.size := Nat.le_trans h.bs (Nat.le_of_lt hpsd)
        have hBgp : B ≤ gp := by rw [← hgp]; exact h.bp
        generalize h.curp = cur at *
        clear hNext h hgp hcp hgc hgj hcj kv hro hjo hRj k0 k0d
        go_wp2_with fail
        go_region_law (first | (go_simp; go_at_call 113; refine (HWo.out wr.drew K0d.out HRj.out HRod.out).mono ?_; rintro e w2 ⟨gg, rfl, hgs, hg2, hb2⟩; have X1 := (hb2.block gp hszd).trans HH1.out; have x0 := (blk_cell (j := j) X1).trans KV.out; have xf := blk_free X1 j; have x2 := (hb2.cell (p := ⟨ps, 2, none⟩) hpsd).trans K2d.out; have HZ := Lib.hid (And.intro hgs (And.intro hg2 hb2)); clear X1 hgs hg2 hb2))
        all_goals (
          have HN := Lib.hid (HNext.out w2 gg HZ.out.1 HZ.out.2.1 HZ.out.2.2)
          have HBn := Lib.hid (((HB.out.drew).trans (HZ.out.2.2.mono hBr)).setCell (p := ⟨gp, j, none⟩) hBgp (.slice (some ⟨gg, 0, none⟩) L L))
          have HRn := Lib.hid (show RowB (w2.setCell ⟨gp, j, none⟩ (.slice (some ⟨gg, 0, none⟩) L L)) go L (R o) from (Below.heap_setCell _ _ _ go HRo.out.2.2.1).trans ((HZ.out.2.2.block go (lt_of_block' HRod.out)).trans HRod.out))
          clear x0 xf x2
          go_wp2_with fail
          go_roundw
          case rel => exact ⟨j + 1, by omega, by go_num, HN.out, HRn.out, HBn.out⟩
          case measure => simp [intOf]; omega)
    · have hjn : j = n := by omega
      subst hjn
      obtain ⟨h2, hgc2⟩ : ∃ h2 : StP wr B ps j L den ch (nxR R den o g) E, h2.gc = gc := ⟨h.congr (fun k hk => if_pos hk) (fun _ _ => rfl), hgc⟩
      clear hgp hcp hgc h
      have HU := Lib.hid (Nonempty.intro h2)
      have HSR := fun (w2 : World) (gg : Nat) (hgs : wr.heap.size ≤ gg) (hg2 : RowB w2 gg L (wtoF E (R o) g den)) (hb2 : Below wr.heap.size wr w2) => StP.setRest (o := o) (gv := g) (den' := R o g) (c := L) h2 hb2 ho hgs hg2
      have hbc := h2.bc
      have hbs := h2.bs
      have hd4 := h2.d4
      have HSR2 := Lib.hid (fun (w2 : World) (gg : Nat) (hgs : wr.heap.size ≤ gg) (hg2 : RowB w2 gg L (wtoF E (R o) g den)) (hb2 : Below wr.heap.size wr w2) => show Nonempty (StP (((w2.setCell ⟨ps, 3, none⟩ (.slice (some ⟨gg, 0, none⟩) L L)).setCell ⟨gc, o, none⟩ (.int .i64 (g : Int))).setCell ⟨ps, 0, none⟩ (.int .i64 (R o g))) B ps j L (R o g) (nxC ch o g) (nxR R den o g) (nxE R E den o g)) by
        have := HSR w2 gg hgs hg2 hb2
        rw [hgc2] at this
        exact this)
      obtain ⟨cc, hcc⟩ : ∃ cc, h2.cc = cc := ⟨_, rfl⟩
      obtain ⟨gp2, hgp2⟩ : ∃ x, h2.gp = x := ⟨_, rfl⟩
      obtain ⟨cp2, hcp2⟩ : ∃ x, h2.cp = x := ⟨_, rfl⟩
      obtain ⟨ge, hge⟩ : ∃ ge, h2.ge = ge := ⟨_, rfl⟩
      obtain ⟨ce, hce⟩ : ∃ ce, h2.ce = ce := ⟨_, rfl⟩
      have hs := h2.hs
      rw [hgc2, hcc, hgp2, hcp2, hge, hce] at hs
      have hcb := h2.hc
      rw [hgc2] at hcb hbc hd4
      have hco := h2.hcv o ho
      have heb := h2.he
      rw [hge] at heb
      have hgoc : go ≠ ps := HRo.out.2.1
      have hgoc2 : go ≠ gc := HRo.out.2.2.2
      generalize h2.curc = curc at *
      have k3 : wr.cell? ⟨ps, 3, none⟩ = some (.slice (some ⟨ge, 0, none⟩) L ce) := blk_cell hs
      have HWo := Lib.hid (without_any ps ge ce go co L g den E (R o) hg (by omega) (fun p hp => HSe.out p hp) (fun p hp => HSm.out o p ho hp) hd wr (blk_cell hs) heb hro)
      have HHs := Lib.hid hs
      have HHc := Lib.hid hcb
      have hps := lt_of_block' hs
      have hgcl := lt_of_block' hcb
      have hgol := lt_of_block' hro
      clear HSR hgc2 hcc hgp2 hcp2 hge hce h2 hs hcb heb hro hlt
      go_wp2_with fail
      refine HWo.out.mono ?_
      rintro e w2 ⟨gg, rfl, hgs, hg2, hb2⟩
      have HF := Lib.hid (HSR2.out w2 gg hgs hg2 hb2)
      have X1 := (hb2.block ps hps).trans HHs.out
      have X2 := (hb2.block gc hgcl).trans HHc.out
      have X3 := (hb2.block go hgol).trans HRr.out
      have x3 := blk_cell (j := 3) X1
      have f3 := blk_free X1 3
      have Y1 := blk_set X1 3 (.slice (some ⟨gg, 0, none⟩) L L)
      have Y2 := (Below.heap_setCell w2 ⟨ps, 3, none⟩ (.slice (some ⟨gg, 0, none⟩) L L) gc hd4).trans X2
      have Y3 := (Below.heap_setCell w2 ⟨ps, 3, none⟩ (.slice (some ⟨gg, 0, none⟩) L L) go hgoc).trans X3
      have y1 := blk_cell (j := 1) Y1
      have y2 := (blk_cell (j := o) Y2).trans hco
      have f2 := blk_free Y2 o
      have Z1 := (Below.heap_setCell (w2.setCell ⟨ps, 3, none⟩ (.slice (some ⟨gg, 0, none⟩) L L)) ⟨gc, o, none⟩ (.int .i64 (g : Int)) ps (Ne.symm hd4)).trans Y1
      have Z3 := (Below.heap_setCell (w2.setCell ⟨ps, 3, none⟩ (.slice (some ⟨gg, 0, none⟩) L L)) ⟨gc, o, none⟩ (.int .i64 (g : Int)) go hgoc2).trans Y3
      have z3 := (blk_cell (j := g) Z3).trans (rowF_at hg)
      have z0 := blk_cell (j := 0) Z1
      have f0 := blk_free Z1 0
      have HBz := Lib.hid ((((HB.out.trans (hb2.mono (Nat.le_trans hbs (Nat.le_of_lt hps)))).setCell (p := ⟨ps, 3, none⟩) hbs (.slice (some ⟨gg, 0, none⟩) L L)).setCell (p := ⟨gc, o, none⟩) hbc (.int .i64 (g : Int))).setCell (p := ⟨ps, 0, none⟩) hbs (.int .i64 (R o g)))
      clear X1 X2 X3 Y1 Y2 Y3 Z1 Z3 hb2 hg2 hgs
      go_wp2_with fail
      refine bodyPost_end (results_none rfl _ _ _) rfl ⟨⟨_, rfl⟩, HF.out, HBz.out⟩
end Go.Proofs.Ytfmhanpibgmgfaa

/-
  The search for pays and balances: the walks of slices.IndexFunc at its test, of Core's visitor where no pay is in the core, of search. Condition: how the run goes is told ahead.
-/
import Derived.Test.YtfmhanpibgmgfaaPug
import Derived.Laws.EntriesVeiled
namespace Go.Proofs.Ytfmhanpibgmgfaa
open Go.RowKit
set_option linter.unusedVariables false

set_option maxRecDepth 4000 in
set_option maxHeartbeats 800000 in
theorem IndexPoor_any (A : Option Addr) (c : Nat) (L : List Int)  (p : Int → Bool) (w : World) (hr : Rd w w.heap.size A (ints L)) (hl : L.length ≤ 9223372036854775807)
    (HC : ∀ w', Below w.heap.size w w' → ∀ d ∈ L, Calls Try.prog 101 #[.int .i64 d] w' fun e w'' => e = .returned (.bool (p d)) ∧ Below w'.heap.size w' w'') :
    Calls Try.prog 100 #[.slice A L.length c, .func (.func 101) #[] #[]] w fun e w' => e = .returned (.int .i64 (idxF p L)) ∧ Below w.heap.size w w' := by
  have HR := Lib.hid hr
  have HCC := Lib.hid HC
  have HH := Lib.hid (fun k d hd h ha => idx_hit (p := p) (L := L) (k := k) (d := d) hd h ha)
  have HN := Lib.hid (fun ha => idx_none (p := p) (L := L) ha)
  clear hr HC
  go_enter Try.func100, Try.ntmps100
  go_wp2_with fail
  go_loopw [8] (fun i wr => ∃ k : Nat, k ≤ L.length ∧ i = .int .i64 k ∧ (∀ (j : Nat) e, j < k → L[j]? = some e → p e = false) ∧ Below w.heap.size w wr) (fun i _ => L.length - (intOf i).toNat)
  case atStart => exact ⟨0, by omega, rfl, fun j e hj => by omega, Below.refl _ _⟩
  case round =>
    obtain ⟨k, hk, rfl, hall, hb⟩ := hrel
    have HA := Lib.hid hall
    have BW := Lib.hid hb
    clear hall hb
    by_cases hlt : k < L.length
    · obtain ⟨b, o, d, rfl, hd, hc⟩ := (HR.out.below BW.out (Nat.le_refl _)).int k hlt
      have HQ := Lib.hid (HCC.out wr BW.out d (List.mem_of_getElem? hd.out))
      cases hp : p d
      · have HX := Lib.hid (none_next hd.out hp HA.out)
        rw [hp] at HQ
        clear hp
        go_wp2_with (go_at_call 101; refine HQ.out.mono ?_; rintro e w2 ⟨rfl, hb⟩; have B2 := Lib.hid (BW.out.trans (hb.mono BW.out.size)); clear hb)
        go_roundw
        case rel => exact ⟨k + 1, by omega, by go_num, HX.out, B2.out⟩
        case measure => simp [intOf]; omega
      · have HX := Lib.hid (HH.out k d hd.out hp HA.out)
        rw [hp] at HQ
        clear hp
        go_wp2_with (go_at_call 101; refine HQ.out.mono ?_; rintro e w2 ⟨rfl, hb⟩; have B2 := Lib.hid (BW.out.trans (hb.mono BW.out.size)); clear hb)
        go_ret
        exact ⟨by rw [HX.out]; rfl, B2.out⟩
    · have hks : k = L.length := by omega
      subst hks
      have HX := Lib.hid (HN.out HA.out)
      go_wp2_with fail
      go_ret
      exact ⟨by rw [HX.out]; rfl, BW.out⟩
def posB (d : Int) : Bool := decide (0 < d)
theorem pos1_any (d : Int) (w : World) : Calls Try.prog 101 #[.int .i64 d] w fun e w' => e = .returned (.bool (posB d)) ∧ Below w.heap.size w w' := by
  have HX := Lib.hid (show posB d = decide (0 < d) from rfl)
  go_enter Try.func101, Try.ntmps101
  go_wp2_with fail
  go_ret
  exact ⟨by rw [HX.out] <;> rfl, Below.refl _ _⟩
/-- The first of the least: a number that is as small as any with P. -/
theorem least {P : Nat → Prop} (h : ∃ t, P t) : ∃ t, P t ∧ ∀ s, P s → t ≤ s := by
  obtain ⟨t, ht⟩ := h
  induction t using Nat.strongRecOn with
  | _ t ih =>
    by_cases h2 : ∃ s, s < t ∧ P s
    · obtain ⟨s, hs, hp⟩ := h2
      exact ih s hs hp
    · exact ⟨t, ht, fun s hs => by
        rcases Nat.lt_or_ge s t with h3 | h3
        · exact absurd ⟨s, h3, hs⟩ h2
        · exact h3⟩
noncomputable def mu (P : Nat → Prop) : Nat := open Classical in if h : ∃ t, P t then Classical.choose (least h) else 0
theorem mu_is {P : Nat → Prop} (h : ∃ t, P t) : P (mu P) ∧ ∀ s, P s → mu P ≤ s := by
  unfold mu
  rw [dif_pos h]
  exact Classical.choose_spec (least h)
/-- A stand, in numbers. -/
structure SdT where
  den : Int
  ch : Nat → Int
  R : Nat → Nat → Int
  E : Nat → Int
def StS (w : World) (B ps n L : Nat) (S : SdT) : Prop := Nonempty (StP w B ps n L S.den S.ch S.R S.E)
def nxS (S : SdT) (g o : Nat) : SdT := ⟨S.R o g, nxC S.ch o g, nxR S.R S.den o g, nxE S.R S.E S.den o g⟩
structure GoodT (n L : Nat) (S : SdT) : Prop where
  sr : ∀ k p, k < n → p < L → Sm (S.R k p)
  se : ∀ p, p < L → Sm (S.E p)
  nz : S.den ≠ 0
/-- A run of the search in which no pay is in the core. -/
def RunN (n L : Nat) : Nat → SdT → Prop
  | 0, S => GoodT n L S ∧ coreB S.E L = false ∧ idxF posB (rowF S.E L) = -1
  | t + 1, S => GoodT n L S ∧ coreB S.E L = false ∧ ∃ g o : Nat, g < L ∧ idxF posB (rowF S.E L) = (g : Int) ∧ lvF S.R S.ch (L - 1) g n = (o : Int) ∧ o < n ∧ RunN n L t (nxS S g o)
theorem RunN.good {n L t : Nat} {S : SdT} (h : RunN n L t S) : GoodT n L S ∧ coreB S.E L = false := by
  cases t with
  | zero => exact ⟨h.1, h.2.1⟩
  | succ t => exact ⟨h.1, h.2.1⟩
theorem StP.row_e {w : World} {B ps n L : Nat} {den : Int} {ch : Nat → Int} {R : Nat → Nat → Int} {E : Nat → Int} (h : StP w B ps n L den ch R E) : ∃ ge ce, w.cell? ⟨ps, 3, none⟩ = some (.slice (some ⟨ge, 0, none⟩) L ce) ∧ RowB w ge L E := ⟨h.ge, h.ce, blk_cell h.hs, h.he⟩
set_option maxRecDepth 8000 in
set_option maxHeartbeats 1000000 in
theorem visit2_any (bv : Addr) {B ps n L : Nat} {S : SdT} (hL0 : 0 < L) (hL : L ≤ 32) (hc : coreB S.E L = false) (w : World) (h : StS w B ps n L S) :
    Calls Try.prog 82 #[.pointer (some ⟨ps, 0, none⟩), .pointer (some bv)] w fun e w' => (∃ v, e = .returned v) ∧ w = w' := by
  obtain ⟨h⟩ := h
  obtain ⟨ge, ce, c3, hr⟩ := h.row_e
  have HC := Lib.hid (areOfCore_any ge L ce S.E hL0 (by omega) 3 w hr)
  rw [hc] at HC
  clear h hr hc
  go_enter Try.func82, Try.ntmps82
  go_wp2_with fail
  refine HC.out.mono ?_
  rintro e w' ⟨rfl, rfl⟩
  go_wp2_with fail
  refine bodyPost_end (results_none rfl _ _ _) rfl ⟨⟨_, rfl⟩, rfl⟩
set_option maxRecDepth 8000 in
set_option maxHeartbeats 4000000 in
theorem search_any (Av : Option Addr) (v : List Int) (cv n t : Nat) (bv : Addr) (pv : Pv v n) (hup : upB 1000 v = true) (hrun : RunN n v.length t ⟨1, alF, inF, excF v 1 (rowF (vaF v) n)⟩) (w : World) (hrv : Rd w w.heap.size Av (ints v)) :
    Calls Try.prog 81 #[.slice Av v.length cv, .func (.func 82) #[] #[.pointer (some bv)]] w fun e w' => (∃ v, e = .returned v) ∧ Below w.heap.size w w' := by
  have h32 := pv.le
  have hn5 := pv.five
  have hL0 : 1 ≤ v.length := by rw [pv.len]; exact Nat.two_pow_pos n
  have HBe := Lib.hid (show Calls Try.prog 99 #[.slice Av v.length cv] w fun e w' => ∃ ps, e = .returned (.pointer (some ⟨ps, 0, none⟩)) ∧ w.heap.size ≤ ps ∧ StS w' w.heap.size ps n v.length ⟨1, alF, inF, excF v 1 (rowF (vaF v) n)⟩ ∧ Below w.heap.size w w' from begin_any Av v cv n pv hup w hrv)
  generalize (⟨1, alF, inF, excF v 1 (rowF (vaF v) n)⟩ : SdT) = S0 at *
  have HRun := Lib.hid hrun
  obtain ⟨B, hB⟩ : ∃ B, w.heap.size = B := ⟨_, rfl⟩
  have HBz := Lib.hid hB
  rw [hB] at HBe
  generalize v.length = L at *
  have HVi := Lib.hid (fun (S : SdT) (hc : coreB S.E L = false) (ps : Nat) (w : World) (h : StS w B ps n L S) => visit2_any bv (n := n) (by omega) h32 hc w h)
  clear hrun pv hup hrv hB
  go_enter Try.func81, Try.ntmps81
  go_wp2_with fail
  refine HBe.out.mono ?_
  rintro e w1 ⟨ps, rfl, hps, hst, hb1⟩
  have HS1 := Lib.hid (show StS w1 B ps n L S0 from hst)
  have HB1 := Lib.hid hb1
  clear hst hb1
  go_wp2_with fail
  go_loopw [5] (fun u wr => (∃ t S, StS wr B ps n L S ∧ RunN n L t S) ∧ Below B w wr) (fun u wr => mu (fun t => ∃ S, StS wr B ps n L S ∧ RunN n L t S))
  case atStart => exact ⟨⟨t, S0, HS1.out, HRun.out⟩, HB1.out⟩
  case round =>
    obtain ⟨hex, hb⟩ := hrel
    have HB := Lib.hid hb
    obtain ⟨⟨S, hst, hrun⟩, hmin⟩ := mu_is (P := fun t => ∃ S, StS wr B ps n L S ∧ RunN n L t S) hex
    obtain ⟨T, hT⟩ : ∃ T, mu (fun t => ∃ S, StS wr B ps n L S ∧ RunN n L t S) = T := ⟨_, rfl⟩
    have HT := Lib.hid hT
    rw [hT] at hrun
    have hgood := hrun.good
    have HV := Lib.hid (HVi.out S hgood.2 ps wr hst)
    obtain ⟨ge, ce, c3, hr⟩ := (show ∃ ge ce, wr.cell? ⟨ps, 3, none⟩ = some (.slice (some ⟨ge, 0, none⟩) L ce) ∧ RowB wr ge L S.E from by obtain ⟨h⟩ := hst; exact h.row_e)
    have hsz : ge < wr.heap.size := lt_of_block' hr
    have HI := Lib.hid (IndexPoor_any (some ⟨ge, 0, none⟩) ce (rowF S.E L) posB wr (Rd.of_block hr) (by rw [rowF_len]; omega) fun w' _ d _ => pos1_any d w')
    rw [rowF_len] at HI
    have HSt := Lib.hid hst
    have hBw : B ≤ wr.heap.size := by rw [← HBz.out]; exact hb.size
    clear hex hmin hr hb hst hT
    cases T with
    | zero =>
      rw [hrun.2.2] at HI
      clear hrun hgood
      go_wp2_with fail
      refine HV.out.mono ?_
      rintro e w2 ⟨⟨v2, rfl⟩, rfl⟩
      go_wp2_with fail
      refine HI.out.mono ?_
      rintro e w3 ⟨rfl, hb3⟩
      have HB3 := Lib.hid (HB.out.trans (hb3.mono hBw))
      clear hb3
      go_wp2_with fail
      refine bodyPost_ret (results_none rfl _ _ _) rfl ⟨⟨_, rfl⟩, by rw [HBz.out]; exact HB3.out⟩
    | succ t2 =>
      obtain ⟨hg, hcc, g, o, hgL, hix, hlv, hon, hnext⟩ := hrun
      rw [hix] at HI
      have e1 : decide ((g : Int) < 0) = false := decide_eq_false (by omega)
      have HCh := Lib.hid (fun (w3 : World) (h : StS w3 B ps n L S) => show Calls Try.prog 102 #[.pointer (some ⟨ps, 0, none⟩), .int .i64 (g : Int)] w3 fun e w' => (∃ v, e = .returned v) ∧ StS w' B ps n L (nxS S g o) ∧ Below B w3 w' from choose_any g o hgL hon hlv hn5 hL0 h32 hg.sr hg.se hg.nz w3 (Classical.choice h))
      have HNx := Lib.hid hnext
      clear hg hcc hix hlv hnext hgood
      go_wp2_with fail
      refine HV.out.mono ?_
      rintro e w2 ⟨⟨v2, rfl⟩, rfl⟩
      go_wp2_with fail
      refine HI.out.mono ?_
      rintro e w3 ⟨rfl, hb3⟩
      have HB3 := Lib.hid (HB.out.trans (hb3.mono hBw))
      have HC3 := Lib.hid (HCh.out w3 (by obtain ⟨h⟩ := HSt.out; exact ⟨h.up hb3⟩))
      clear hb3
      go_wp2_with fail
      refine HC3.out.mono ?_
      rintro e w4 ⟨⟨v4, rfl⟩, hst4, hb4⟩
      have HS4 := Lib.hid hst4
      have HB4 := Lib.hid (HB3.out.trans hb4)
      have HM := Lib.hid ((mu_is (P := fun t => ∃ S, StS w4 B ps n L S ∧ RunN n L t S) ⟨t2, nxS S g o, hst4, HNx.out⟩).2 t2 ⟨nxS S g o, hst4, HNx.out⟩)
      clear hst4 hb4
      go_wp2_with fail
      go_roundw
      case rel => exact ⟨⟨t2, nxS S g o, HS4.out, HNx.out⟩, HB4.out⟩
      case measure =>
        have h1 := HM.out
        have h2 := HT.out
        omega
end Go.Proofs.Ytfmhanpibgmgfaa

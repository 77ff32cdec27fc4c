/-
  The search for pays and balances: how a stand lies in memory; the walks of without, weight, compare, leaves. Conditions: numbers that are not too great.
-/
import Derived.Test.YtfmhanpibgmgfaaPua
namespace Go.Proofs.Ytfmhanpibgmgfaa
open Go.RowKit
set_option linter.unusedVariables false

def wtoF (fl fr : Nat → Int) (k : Nat) (den : Int) (p : Nat) : Int := Int.tdiv (fl p * fr k - fl k * fr p) den
/-- A row of L numbers in a block. -/
def RowB (w : World) (g L : Nat) (F : Nat → Int) : Prop := w.heap[g]? = some (.cells (ints (rowF F L)).toArray 3 (0, 0))
set_option maxRecDepth 8000 in
set_option maxHeartbeats 4000000 in
theorem without_any (ps ga ca gb cb n k : Nat) (den : Int) (fa fb : Nat → Int) (hk : k < n) (hn : n ≤ 100) (hfa : ∀ p, p < n → Sm (fa p)) (hfb : ∀ p, p < n → Sm (fb p)) (hd : den ≠ 0) (w : World) (hp : w.cell? ⟨ps, 0, none⟩ = some (.int .i64 den)) (ha : RowB w ga n fa) (hb : RowB w gb n fb) :
    Calls Try.prog 113 #[.pointer (some ⟨ps, 0, none⟩), .slice (some ⟨ga, 0, none⟩) n ca, .slice (some ⟨gb, 0, none⟩) n cb, .int .i64 (k : Int)] w fun e w' => ∃ g, e = .returned (.slice (some ⟨g, 0, none⟩) n n) ∧ w.heap.size ≤ g ∧ RowB w' g n (wtoF fa fb k den) ∧ Below w.heap.size w w' := by
  unfold RowB at ha hb
  obtain ⟨i0, hi0, hz0, hz1, hz2⟩ := info_parts eInt0.hi
  have HA := Lib.hid ha
  have HB := Lib.hid hb
  have HP := Lib.hid hp
  have HFA := Lib.hid hfa
  have HFB := Lib.hid hfb
  have HWt := Lib.hid (fun p => show wtoF fa fb k den p = Int.tdiv (fa p * fb k - fa k * fb p) den from rfl)
  unfold RowB
  obtain ⟨F, hF⟩ : ∃ F, wtoF fa fb k den = F := ⟨_, rfl⟩
  rw [hF] at HWt ⊢
  obtain ⟨s, hs⟩ : ∃ s, w.heap.size = s := ⟨_, rfl⟩
  have HS := Lib.hid hs
  have hga : ga < s := by have := lt_of_block' ha; omega
  have hgb : gb < s := by have := lt_of_block' hb; omega
  have hps : ps < s := by have h : ps < w.heap.size := World.block_lt_of_cell? w _ hp; omega
  clear ha hb hfa hfb hs hp hF
  go_enter Try.func113, Try.ntmps113
  go_wp2_with ((at_make; refine wpList_make_full _ rfl (.tmp 12) (.tmp 12) 22 rfl w.heap.size 3 i0 (.int .i64 0) 1 Try.underlying22 hi0 hz0 hz1 .i64 .i64 _ _ n rfl rfl rfl rfl (by rw [hz2]; omega) (by simp only [maxLen]; omega) (Nat.le_refl _) ?_; intro w3 hown hgr; have MD := Lib.hid (made_rowF hown hgr); clear hown hgr))
  rw [HS.out] at MD ⊢
  go_loopw [16] (fun z wr => ∃ j : Nat, j ≤ n ∧ z = .int .i64 j ∧ wr.heap[s]? = some (.cells (ints (rowF (sofar F j) n)).toArray 3 (0, 0)) ∧ Below s w wr) (fun z _ => n - (intOf z).toNat)
  case atStart => exact ⟨0, by omega, rfl, by rw [MD.out.2, rowF_congr (F := sofar F 0) (G := fun _ => 0) (fun p _ => if_neg (by omega))], MD.out.1⟩
  case round =>
    obtain ⟨j, hj, rfl, hg, hbl⟩ := hrel
    by_cases hlt : j < n
    · have b0 : (0 : Int) ≤ (j : Int) := by omega
      have b1 : (j : Int) < (n : Int) := by omega
      have b2 : (0 : Int) ≤ (k : Int) := by omega
      have b3 : (k : Int) < (n : Int) := by omega
      have hwa := (hbl.block ga hga).trans HA.out
      have hwb := (hbl.block gb hgb).trans HB.out
      have c1 : wr.cell? ⟨ga, j, none⟩ = some (.int .i64 (fa j)) := (blk_cell hwa).trans (rowF_at hlt)
      have c2 : wr.cell? ⟨ga, k, none⟩ = some (.int .i64 (fa k)) := (blk_cell hwa).trans (rowF_at hk)
      have c3 : wr.cell? ⟨gb, j, none⟩ = some (.int .i64 (fb j)) := (blk_cell hwb).trans (rowF_at hlt)
      have c4 : wr.cell? ⟨gb, k, none⟩ = some (.int .i64 (fb k)) := (blk_cell hwb).trans (rowF_at hk)
      have c5 : wr.cell? ⟨ps, 0, none⟩ = some (.int .i64 den) := (hbl.cell (p := ⟨ps, 0, none⟩) hps).trans HP.out
      have c0 : wr.cell? ⟨s, j, none⟩ = some (.int .i64 (sofar F j j)) := (blk_cell hg).trans (rowF_at hlt)
      have f0 := blk_free hg j
      have m1 := sm_mul (HFA.out j hlt) (HFB.out k hk)
      have m2 := sm_mul (HFA.out k hk) (HFB.out j hlt)
      have HZ := Lib.hid (HWt.out j)
      have hmid : Mid (fa j * fb k - fa k * fb j) := by unfold Mid; omega
      have q1 : IntKind.i64.wrap (fa j * fb k) = fa j * fb k := wrapI_mid (by unfold Mid; omega)
      have q2 : IntKind.i64.wrap (fa k * fb j) = fa k * fb j := wrapI_mid (by unfold Mid; omega)
      have q3 : IntKind.i64.wrap (fa j * fb k - fa k * fb j) = fa j * fb k - fa k * fb j := wrapI_mid hmid
      have q4 : IntKind.i64.wrap (Int.tdiv (fa j * fb k - fa k * fb j) den) = Int.tdiv (fa j * fb k - fa k * fb j) den := wrapI_mid (tdiv_mid hmid _)
      have e5 : (den == 0) = false := by simpa using hd
      have H1 := Lib.hid (show (wr.setCell ⟨s, j, none⟩ (.int .i64 (Int.tdiv (fa j * fb k - fa k * fb j) den))).drew.heap[s]? = some (.cells (ints (rowF (sofar F (j + 1)) n)).toArray 3 (0, 0)) by
        show (wr.setCell ⟨s, j, none⟩ (.int .i64 (Int.tdiv (fa j * fb k - fa k * fb j) den))).heap[s]? = _
        rw [blk_set hg j _, rowF_set (G := sofar F (j + 1)) (by unfold sofar; rw [if_pos (Nat.lt_succ_self j), HZ.out]) (fun p hp => by unfold sofar; split <;> split <;> first | rfl | omega)])
      have HBZ := Lib.hid ((hbl.setCell (p := ⟨s, j, none⟩) (Nat.le_refl _) (.int .i64 (Int.tdiv (fa j * fb k - fa k * fb j) den))).drew)
      clear hg hbl hwa hwb m1 m2 hmid
      generalize fa j = x1 at *
      generalize fa k = x2 at *
      generalize fb j = x3 at *
      generalize fb k = x4 at *
      go_wp2_with fail
      go_region
      go_wp2_with fail
      go_roundw
      case rel => exact ⟨j + 1, by omega, by go_num, H1.out, HBZ.out⟩
      case measure => simp [intOf]; omega
    · have hjn : j = n := by omega
      subst hjn
      rw [rowF_congr (F := sofar F j) (G := F) fun p hp => if_pos hp] at hg
      have HG := Lib.hid hg
      have HBL := Lib.hid hbl
      clear hlt hg hbl
      go_wp2_with fail
      go_ret
      exact ⟨s, rfl, by rw [HS.out]; exact Nat.le_refl _, HG.out, by rw [HS.out]; exact HBL.out⟩
/-- A stand: its four fields, the chosen groups, a row for each, the excesses. -/
structure StP (w : World) (B ps n L : Nat) (den : Int) (ch : Nat → Int) (R : Nat → Nat → Int) (E : Nat → Int) where
  gc : Nat
  cc : Nat
  gp : Nat
  cp : Nat
  ge : Nat
  ce : Nat
  curc : Array Value
  curp : Array Value
  G : Nat → Nat
  C : Nat → Nat
  hs : w.heap[ps]? = some (.cells #[.int .i64 den, .slice (some ⟨gc, 0, none⟩) n cc, .slice (some ⟨gp, 0, none⟩) n cp, .slice (some ⟨ge, 0, none⟩) L ce] 82 (0, 0))
  hc : w.heap[gc]? = some (.cells curc 3 (0, 0))
  hcv : ∀ k, k < n → curc[k]? = some (.int .i64 (ch k))
  hp : w.heap[gp]? = some (.cells curp 22 (0, 0))
  hpv : ∀ k, k < n → curp[k]? = some (.slice (some ⟨G k, 0, none⟩) L (C k))
  hg : ∀ k, k < n → RowB w (G k) L (R k) ∧ G k ≠ ps ∧ G k ≠ gc ∧ G k ≠ gp
  he : RowB w ge L E
  d1 : ge ≠ ps
  d2 : ge ≠ gc
  d3 : ge ≠ gp
  d4 : gc ≠ ps
  d5 : gp ≠ ps
  d6 : gc ≠ gp
  bs : B ≤ ps
  bc : B ≤ gc
  bp : B ≤ gp
def StP.up {w w' : World} {B ps n L : Nat} {den : Int} {ch : Nat → Int} {R : Nat → Nat → Int} {E : Nat → Int} (h : StP w B ps n L den ch R E) (hb : Below w.heap.size w w') : StP w' B ps n L den ch R E :=
  { h with
    hs := (hb.block _ (lt_of_block' h.hs)).trans h.hs
    hc := (hb.block _ (lt_of_block' h.hc)).trans h.hc
    hp := (hb.block _ (lt_of_block' h.hp)).trans h.hp
    hg := fun k hk => ⟨(hb.block _ (lt_of_block' (h.hg k hk).1)).trans (h.hg k hk).1, (h.hg k hk).2⟩
    he := (hb.block _ (lt_of_block' h.he)).trans h.he }
set_option maxRecDepth 8000 in
set_option maxHeartbeats 2000000 in
theorem weight_any {B ps n L : Nat} {den : Int} {ch : Nat → Int} {R : Nat → Nat → Int} {E : Nat → Int} (k : Nat) (hk : k < n) (hn : n ≤ 5) (hL0 : 1 ≤ L) (hL : L ≤ 32) (w : World) (h : StP w B ps n L den ch R E) :
    Calls Try.prog 103 #[.pointer (some ⟨ps, 0, none⟩), .int .i64 (k : Int)] w fun e w' => e = .returned (.int .i64 (R k (L - 1))) ∧ ∃ m, w' = w.drewN m := by
  obtain ⟨gc, cc, gp, cp, ge, ce, curc, curp, G, C, hs, hc, hcv, hp, hpv, hg, he, d1, d2, d3, d4, d5, d6, bs, bc, bp⟩ := h
  have c2 : w.cell? ⟨ps, 2, none⟩ = some (.slice (some ⟨gp, 0, none⟩) n cp) := blk_cell hs
  have c3 : w.cell? ⟨ps, 3, none⟩ = some (.slice (some ⟨ge, 0, none⟩) L ce) := blk_cell hs
  have c4 : w.cell? ⟨gp, k, none⟩ = some (.slice (some ⟨G k, 0, none⟩) L (C k)) := (blk_cell hp).trans (hpv k hk)
  have c5 : w.cell? ⟨G k, L - 1, none⟩ = some (.int .i64 (R k (L - 1))) := (blk_cell (hg k hk).1).trans (rowF_at (by omega))
  have HWh := Lib.hid (fun w => whole_any (some ⟨ge, 0, none⟩) L ce hL0 (by omega) w)
  obtain ⟨l1, hl1⟩ : ∃ l1, L - 1 = l1 := ⟨_, rfl⟩
  rw [hl1] at c5 HWh ⊢
  have b0 : (0 : Int) ≤ (k : Int) := by omega
  have b1 : (k : Int) < (n : Int) := by omega
  have b2 : (0 : Int) ≤ (l1 : Int) := by omega
  have b3 : (l1 : Int) < (L : Int) := by omega
  generalize R k l1 = z at *
  clear hs hc hcv hp hpv hg he d1 d2 d3 d4 d5 d6 bs bc bp hl1
  go_enter Try.func103, Try.ntmps103
  go_wp2_with fail
  go_quiet ((go_at_call 70; first | exact qs (HWh.out _) | exact qs0 (HWh.out _)))
  go_wp2_with fail
  go_ret
  exact ⟨rfl, _, rfl⟩
end Go.Proofs.Ytfmhanpibgmgfaa

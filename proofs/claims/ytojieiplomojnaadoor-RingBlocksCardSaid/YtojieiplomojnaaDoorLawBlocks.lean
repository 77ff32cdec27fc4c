/-
  The walk of the law RingBlocks: it returns true. Condition: 'Tabs'; and how a list of blocks that came in is opened.
-/
import Derived.Test.YtojieiplomojnaaDoorOwn
import Derived.Test.YtojieiplomojnaaDoorRec
import Derived.Test.YtojieiplomojnaaDoorLawFits
namespace Go.Proofs.YtojieiplomojnaaDoor
open Go.RowKit
set_option linter.unusedVariables false

set_option maxHeartbeats 800000 in
theorem RingBlocks_walk (A : Option Addr) (c : Nat) (l : List Blk) (s : ByteArray) (w : World) (hr : Rd w w.heap.size A (blks l)) (hsz : ∀ x ∈ l, x.s.size ≤ 9223372036854775807) (hn : l.length ≤ c) (hc : c ≤ maxLen) (hs : s.size ≤ 9223372036854775807) (ht : Tabs w) :
    Calls Tryd.prog 13 #[.slice A l.length c, .string s] w fun e w' => e = .returned (.bool true) ∧ Below w.heap.size w w' := by
  have HT := Lib.hid ht
  have HR := Lib.hid hr
  clear ht hr
  unfold maxLen at hc
  by_cases h60 : (60 : Int) < (l.length : Int)
  · go_enter Tryd.func13, Tryd.ntmps13
    go_wp2_with fail
    refine (known_ok w HT.out).mono ?_
    rintro e w4 ⟨rfl, hbl⟩
    go_wp2_with fail
    go_ret
    exact ⟨rfl, hbl⟩
  cases hls : decide (200 < s.size)
  · have C1 := Lib.hid (fun w => long_is s _ w hs hls)
    have hs' : s.size ≤ 1000 := by simp at hls; omega
    have T1 := Lib.hid (fun w h => Total_any A c l w h hsz hn hc)
    have T2 := Lib.hid (fun w h => rTotal_any A c l w h hsz hn hc)
    have O1 := Lib.hid (fun w h t => Owner_any A c l s w h hsz hn hc hs' t)
    have O2 := Lib.hid (fun w h => rOwner_any A c l s w h hsz hn hc hs')
    have V1 := Lib.hid (fun w h => ValidateBlocks_any A c l w h hsz hn hc)
    have V2 := Lib.hid (fun w h => rValidateBlocks_any A c l w h hsz hn hc)
    clear hls hs'
    generalize totV l = t at *
    generalize blocksE l = E at *
    generalize ownI l s = I at *
    generalize ownB l s = B at *
    generalize ownE l s = E2 at *
    go_enter Tryd.func13, Tryd.ntmps13
    go_wp2_with fail
    refine (C1.out w).mono ?_
    rintro e w' ⟨rfl, rfl⟩
    go_wp2_with fail
    refine (T1.out w HR.out).mono ?_
    rintro e w1 ⟨rfl, hbl⟩
    have B1 := Lib.hid hbl
    have R1 := Lib.hid ((HR.out.below hbl (Nat.le_refl _)).more hbl.size)
    clear hbl
    go_wp2_with fail
    refine (T2.out w1 R1.out).mono ?_
    rintro e w' ⟨rfl, n, rfl⟩
    go_wp2_with fail
    refine (O1.out (w1.drewN n) (R1.out.drewN n) ((HT.out.below' B1.out).drewN n)).mono ?_
    rintro e w2 ⟨rfl, hbl⟩
    have B2 := Lib.hid (B1.out.trans (((below_drewN (Below.refl _ _) n).trans hbl).mono B1.out.size))
    clear hbl
    have R2 := Lib.hid ((HR.out.below B2.out (Nat.le_refl _)).more B2.out.size)
    go_wp2_with fail
    refine (O2.out w2 R2.out).mono ?_
    rintro e w3 ⟨rfl, hbl⟩
    have B3 := Lib.hid (B2.out.trans (hbl.mono B2.out.size))
    clear hbl
    have R3 := Lib.hid ((HR.out.below B3.out (Nat.le_refl _)).more B3.out.size)
    go_wp2_with fail
    refine (V1.out w3 R3.out).mono ?_
    rintro e w4 ⟨rfl, hbl⟩
    have B4 := Lib.hid (B3.out.trans (hbl.mono B3.out.size))
    clear hbl
    have R4 := Lib.hid ((HR.out.below B4.out (Nat.le_refl _)).more B4.out.size)
    go_wp2_with fail
    refine (V2.out w4 R4.out).mono ?_
    rintro e w' ⟨rfl, m, rfl⟩
    go_wp2_with fail
    refine (known_ok (w4.drewN m) ((HT.out.below' B4.out).drewN m)).mono ?_
    rintro e w5 ⟨rfl, hbl⟩
    go_wp2_with fail
    go_ret
    exact ⟨rfl, B4.out.trans (((below_drewN (Below.refl _ _) m).trans hbl).mono B4.out.size)⟩
  · have C1 := Lib.hid (fun w => long_is s _ w hs hls)
    clear hls
    go_enter Tryd.func13, Tryd.ntmps13
    go_wp2_with fail
    refine (C1.out w).mono ?_
    rintro e w' ⟨rfl, rfl⟩
    go_wp2_with fail
    refine (known_ok w HT.out).mono ?_
    rintro e w4 ⟨rfl, hbl⟩
    go_wp2_with fail
    go_ret
    exact ⟨rfl, hbl⟩

/-! ### A list of blocks that came in -/
def SizeOk (x : Blk) : Prop := x.s.size ≤ maxLen
def blkCells (b : Blk) : List Value := [.string b.s, .int .i64 b.f, .int .i64 b.t]
theorem blkCells_len (b : Blk) : (blkCells b).length = 3 := rfl
open Go.ChangeShapes Go.WideShapes Go.ChangeAt in
theorem blk_row {H : Type} {enc : TypeId × Value → H} {P : Program} {w : World} {f0 f1 f2 : Field} (u0 : P.underlying f0.type = some .string) (u1 : P.underlying f1.type = some (.int .i64)) (u2 : P.underlying f2.type = some (.int .i64))
    (cv : Nat → Value) (hf : ∀ (j : Nat) (f : Field), (#[f0, f1, f2])[j]? = some f → ∃ n y, DataW.trod enc P w 0 (fun _ => true) true n f.type [cv j] = some y) :
    ∃ x, SizeOk x ∧ ∀ j, j < (#[f0, f1, f2]).size → (blkCells x)[j]? = some (cv j) := by
  obtain ⟨n0, y0, h0⟩ := hf 0 _ rfl
  obtain ⟨n1, y1, h1⟩ := hf 1 _ rfl
  obtain ⟨n2, y2, h2⟩ := hf 2 _ rfl
  obtain ⟨s, hs, _, hw⟩ := DataW.trod_string u0 h0
  obtain ⟨f, hf1, _, _⟩ := DataW.trod_int u1 h1
  obtain ⟨t, ht1, _, _⟩ := DataW.trod_int u2 h2
  simp at hs hf1 ht1
  refine ⟨⟨s, f, t⟩, hw, fun j hj => ?_⟩
  have : j = 0 ∨ j = 1 ∨ j = 2 := by
    have : j < 3 := hj
    omega
  rcases this with rfl | rfl | rfl
  · simp [blkCells, hs]
  · simp [blkCells, hf1]
  · simp [blkCells, ht1]
theorem size_of {l : List Blk} (h : ∀ x ∈ l, SizeOk x) : ∀ x ∈ l, x.s.size ≤ 9223372036854775807 := fun x hx => by
  have := h x hx
  unfold SizeOk maxLen at this
  exact this
end Go.Proofs.YtojieiplomojnaaDoor

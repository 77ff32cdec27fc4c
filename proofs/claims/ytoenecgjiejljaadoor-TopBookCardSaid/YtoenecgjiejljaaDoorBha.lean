/-
  A reading of a book: the walk of take. Conditions: how the reading lies; the tables that a row lists.
-/
import Derived.Test.YtoenecgjiejljaaDoorBh9
namespace Go.Proofs.YtoenecgjiejljaaDoor
open Go.RowKit
set_option linter.unusedVariables false

theorem as_nil1 (W : World) : (Instr.typeAssert .nilIface 139 107 true).run Tryd.prog W = .ok (.tuple #[.agg #[.int .i64 0, .int .i64 0], .bool false]) W := by kernel_rfl
theorem as_nil2 (W : World) : (Instr.typeAssert .nilIface 139 179 true).run Tryd.prog W = .ok (.tuple #[.string ⟨#[]⟩, .bool false]) W := by kernel_rfl
theorem as_head (a b : Int) (W : World) : (Instr.typeAssert (.iface 107 (.agg #[.int .i64 a, .int .i64 b])) 139 107 true).run Tryd.prog W = .ok (.tuple #[.agg #[.int .i64 a, .int .i64 b], .bool true]) W := by kernel_rfl
theorem as_sheet1 (s : ByteArray) (W : World) : (Instr.typeAssert (.iface 179 (.string s)) 139 107 true).run Tryd.prog W = .ok (.tuple #[.agg #[.int .i64 0, .int .i64 0], .bool false]) W := by kernel_rfl
theorem as_sheet2 (s : ByteArray) (W : World) : (Instr.typeAssert (.iface 179 (.string s)) 139 179 true).run Tryd.prog W = .ok (.tuple #[.string s, .bool true]) W := by kernel_rfl
set_option maxRecDepth 16000 in
set_option maxHeartbeats 2000000 in
theorem take_nil (br : Nat) (w : World) : Calls Tryd.prog 138 #[.pointer (some ⟨br, 0, none⟩), .nilIface] w fun e w' => e = .returned (.bool false) ∧ Below w.heap.size w w' := by
  have a1 := as_nil1
  have a2 := as_nil2
  go_enter Tryd.func138, Tryd.ntmps138
  go_wp2_with fail
  go_ret
  exact ⟨rfl, by first | exact Below.refl _ _ | exact (Below.refl _ _).alloc (Nat.le_refl _) _⟩
/-- What add and take leave. -/
def AdPost (B br n x : Nat) (bg : Bool) (A : Option Addr) (c : Nat) (P : List (List UInt8)) (rr pg : List UInt8) (w : World) (e : Ending) (w' : World) : Prop :=
  (P.length < n ∧ e = .returned (.bool true) ∧ (∃ A' c', RdSt w' B br bg n x A' c' (P ++ [pg]) rr) ∧ Below br w w') ∨ (¬ P.length < n ∧ e = .returned (.bool false) ∧ RdSt w' B br bg n x A c P rr ∧ Below br w w')
set_option maxRecDepth 16000 in
set_option maxHeartbeats 2000000 in
theorem take_sheet (B br n x : Nat) (bg : Bool) (A : Option Addr) (c : Nat) (P : List (List UInt8)) (rr : List UInt8) (pg : List UInt8) (w : World) (hn : n ≤ 64) (h : RdSt w B br bg n x A c P rr) (hP : P.length ≤ 64) :
    Calls Tryd.prog 138 #[.pointer (some ⟨br, 0, none⟩), .iface 179 (.string (sL pg))] w (AdPost B br n x bg A c P rr pg w) := by
  have HA := Lib.hid (add_any B br n x bg A c P rr pg w hn h hP)
  have HT := Lib.hid (stext_any (sL pg) w)
  unfold AdPost
  generalize sL pg = s at *
  clear h hP hn
  have a1 := as_sheet1 s
  have a2 := as_sheet2 s
  go_enter Tryd.func138, Tryd.ntmps138
  go_wp2_with fail
  refine HT.out.mono ?_
  rintro e w' ⟨rfl, rfl⟩
  go_wp2_with fail
  refine HA.out.mono ?_
  rintro e w1 (⟨h1, rfl, h2, h3⟩ | ⟨h1, rfl, h2, h3⟩)
  · have H1 := Lib.hid h1
    have H2 := Lib.hid h2
    have H3 := Lib.hid h3
    clear h1 h2 h3
    go_wp2_with fail
    go_ret
    exact .inl ⟨H1.out, rfl, H2.out, H3.out⟩
  · have H1 := Lib.hid h1
    have H2 := Lib.hid h2
    have H3 := Lib.hid h3
    clear h1 h2 h3
    go_wp2_with fail
    go_ret
    exact .inr ⟨H1.out, rfl, H2.out, H3.out⟩
set_option maxRecDepth 16000 in
set_option maxHeartbeats 2000000 in
theorem take_head (B br n x : Nat) (A : Option Addr) (c : Nat) (P : List (List UInt8)) (rr : List UInt8) (n' x' : Nat) (w : World) (hn : n ≤ 64) (h : RdSt w B br true n x A c P rr) (hP : P.length ≤ 64) (hT : Tb w) (hn' : n' ≤ 64) (hx' : x' < 2147483647) :
    Calls Tryd.prog 138 #[.pointer (some ⟨br, 0, none⟩), .iface 107 (.agg #[.int .i64 n', .int .i64 x'])] w (AdPost B br n x true A c P rr (canon n' x') w) := by
  obtain ⟨W, hW, k0, s0, b0⟩ := one_blk w #[.int .i64 n', .int .i64 x'] 107
  have c0 : W.cell? ⟨w.heap.size, 0, none⟩ = some (.int .i64 n') := by rw [blk_cell k0]; rfl
  have c1 : W.cell? ⟨w.heap.size, 1, none⟩ = some (.int .i64 x') := by rw [blk_cell k0]; rfl
  have hlt := h.lt
  have hle := h.le
  have SW := h.up b0
  have HT := Lib.hid (text_any n' x' W (by omega) (by omega) (hT.up b0))
  have HA := Lib.hid (fun w1 (hb : Below W.heap.size W w1) => add_any B br n x true A c P rr (canon n' x') w1 hn (SW.up hb) hP)
  have d0 := SW.c0
  have B0 := Lib.hid (show Below br w W from b0.mono (by omega))
  have HBz := Lib.hid (show br ≤ W.heap.size by have := b0.size; omega)
  have a1 := as_head (n' : Int) (x' : Int)
  unfold AdPost
  generalize sL (canon n' x') = s at *
  clear h hT SW hn hP hn' hx' k0 b0 s0 hlt hle
  go_enter Tryd.func138, Tryd.ntmps138
  go_wp2_with fail
  refine HT.out.mono ?_
  rintro e w1 ⟨rfl, hb⟩
  have HAA := Lib.hid (HA.out w1 hb)
  have B1 := Lib.hid (B0.out.trans (hb.mono HBz.out))
  clear hb c0 c1 d0
  go_wp2_with fail
  refine HAA.out.mono ?_
  rintro e w2 (⟨h1, rfl, h2, h3⟩ | ⟨h1, rfl, h2, h3⟩)
  · have H1 := Lib.hid h1
    have H2 := Lib.hid h2
    have H3 := Lib.hid (B1.out.trans h3)
    clear h1 h2 h3
    go_wp2_with fail
    go_ret
    exact .inl ⟨H1.out, rfl, H2.out, H3.out⟩
  · have H1 := Lib.hid h1
    have H2 := Lib.hid h2
    have H3 := Lib.hid (B1.out.trans h3)
    clear h1 h2 h3
    go_wp2_with fail
    go_ret
    exact .inr ⟨H1.out, rfl, H2.out, H3.out⟩
set_option maxRecDepth 16000 in
set_option maxHeartbeats 2000000 in
theorem take_first (B br n x : Nat) (A : Option Addr) (c : Nat) (P : List (List UInt8)) (rr : List UInt8) (n' x' : Nat) (w : World) (h : RdSt w B br false n x A c P rr) :
    Calls Tryd.prog 138 #[.pointer (some ⟨br, 0, none⟩), .iface 107 (.agg #[.int .i64 n', .int .i64 x'])] w fun e w' => e = .returned (.bool true) ∧ RdSt w' B br true n' x' A c P rr ∧ Below br w w' := by
  obtain ⟨W, hW, k0, s0, b0⟩ := one_blk w #[.int .i64 n', .int .i64 x'] 107
  have c0 : W.cell? ⟨w.heap.size, 0, none⟩ = some (.int .i64 n') := by rw [blk_cell k0]; rfl
  have c1 : W.cell? ⟨w.heap.size, 1, none⟩ = some (.int .i64 x') := by rw [blk_cell k0]; rfl
  have hlt := h.lt
  have hle := h.le
  have SW := h.up b0
  have d0 := SW.c0
  have hbb := SW.hb
  have f0 := blk_free hbb 0
  have g1 := blk_set hbb 0 (.bool true)
  have f1 := blk_free g1 1
  have e1 : (W.setCell ⟨br, 0, none⟩ (.bool true)).cell? ⟨br, 1, none⟩ = some (.int .i64 n) := (blk_cell g1).trans rfl
  have hne : w.heap.size ≠ br := Nat.ne_of_gt (Nat.lt_of_lt_of_le hlt hle)
  have c0s : (W.setCell ⟨br, 0, none⟩ (.bool true)).cell? ⟨w.heap.size, 0, none⟩ = some (.int .i64 n') := (World.cell?_of_block (a := ⟨w.heap.size, 0, none⟩) (by simp [World.setCell, Array.getElem?_modify, Ne.symm hne])).trans c0
  have c1s : (W.setCell ⟨br, 0, none⟩ (.bool true)).cell? ⟨w.heap.size, 1, none⟩ = some (.int .i64 x') := (World.cell?_of_block (a := ⟨w.heap.size, 1, none⟩) (by simp [World.setCell, Array.getElem?_modify, Ne.symm hne])).trans c1
  have g2 := blk_set g1 1 (.int .i64 n')
  have f2 := blk_free g2 2
  have e2 : ((W.setCell ⟨br, 0, none⟩ (.bool true)).setCell ⟨br, 1, none⟩ (.int .i64 n')).cell? ⟨br, 2, none⟩ = some (.int .i64 x) := (blk_cell g2).trans rfl
  have HF := Lib.hid (show RdSt ((((W.setCell ⟨br, 0, none⟩ (.bool true)).setCell ⟨br, 1, none⟩ (.int .i64 n')).setCell ⟨br, 2, none⟩ (.int .i64 x'))) B br true n' x' A c P rr from by
    refine ⟨by rw [blk_set g2]; rfl, ownsRow_setCell_below (ownsRow_setCell_below (ownsRow_setCell_below SW.own hlt _) hlt _) hlt _, hlt, by simpa [World.setCell] using SW.le⟩)
  have HB := Lib.hid (show Below br w ((((W.setCell ⟨br, 0, none⟩ (.bool true)).setCell ⟨br, 1, none⟩ (.int .i64 n')).setCell ⟨br, 2, none⟩ (.int .i64 x'))) from (((b0.mono (Nat.le_trans (Nat.le_of_lt hlt) hle)).setCell (p := ⟨br, 0, none⟩) (Nat.le_refl _) _).setCell (p := ⟨br, 1, none⟩) (Nat.le_refl _) _).setCell (p := ⟨br, 2, none⟩) (Nat.le_refl _) _)
  have a1 := as_head (n' : Int) (x' : Int)
  clear h SW k0 b0 s0 hlt hle hbb g1 g2 hne
  go_enter Tryd.func138, Tryd.ntmps138
  go_wp2_with fail
  go_region
  go_wp2_with fail
  go_ret
  exact ⟨rfl, HF.out.drewN 1, bdDN HB.out 1⟩
end Go.Proofs.YtoenecgjiejljaaDoor

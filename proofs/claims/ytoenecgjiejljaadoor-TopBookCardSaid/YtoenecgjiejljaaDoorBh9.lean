/-
  A reading of a book: the walks of lacksPages, add, take. Conditions: how the reading lies; the tables that a row lists.
-/
import Derived.Test.YtoenecgjiejljaaDoorBh8
namespace Go.Proofs.YtoenecgjiejljaaDoor
open Go.RowKit
set_option linter.unusedVariables false

/-- A reading as it lies in memory: its pages are a row of the call's own. -/
structure RdSt (w : World) (B br : Nat) (bg : Bool) (n x : Nat) (A : Option Addr) (c : Nat) (P : List (List UInt8)) (rr : List UInt8) : Prop where
  hb : w.heap[br]? = some (.cells #[.bool bg, .int .i64 n, .int .i64 x, .slice A P.length c, .string (sL rr)] 111 (0, 0))
  own : w.ownsRow B 9 1 (.slice A P.length c) P.length (txl P)
  lt : br < B
  le : B ≤ w.heap.size
section
variable {w w' : World} {B br : Nat} {bg : Bool} {n x : Nat} {A : Option Addr} {c : Nat} {P : List (List UInt8)} {rr : List UInt8}
theorem RdSt.up (h : RdSt w B br bg n x A c P rr) (hb : Below w.heap.size w w') : RdSt w' B br bg n x A c P rr :=
  ⟨(hb.block br (Nat.lt_of_lt_of_le h.lt h.le)).trans h.hb, own_below h.own hb, h.lt, Nat.le_trans h.le hb.size⟩
theorem RdSt.drewN (h : RdSt w B br bg n x A c P rr) (m : Nat) : RdSt (w.drewN m) B br bg n x A c P rr := h.up (bdDN (Below.refl _ _) m)
theorem RdSt.c0 (h : RdSt w B br bg n x A c P rr) : w.cell? ⟨br, 0, none⟩ = some (.bool bg) := (blk_cell h.hb).trans rfl
theorem RdSt.c1 (h : RdSt w B br bg n x A c P rr) : w.cell? ⟨br, 1, none⟩ = some (.int .i64 n) := (blk_cell h.hb).trans rfl
theorem RdSt.c2 (h : RdSt w B br bg n x A c P rr) : w.cell? ⟨br, 2, none⟩ = some (.int .i64 x) := (blk_cell h.hb).trans rfl
theorem RdSt.c3 (h : RdSt w B br bg n x A c P rr) : w.cell? ⟨br, 3, none⟩ = some (.slice A P.length c) := (blk_cell h.hb).trans rfl
theorem RdSt.c4 (h : RdSt w B br bg n x A c P rr) : w.cell? ⟨br, 4, none⟩ = some (.string (sL rr)) := (blk_cell h.hb).trans rfl
/-- Another rest. -/
theorem RdSt.rest (h : RdSt w B br bg n x A c P rr) (r2 : List UInt8) : RdSt (w.setCell ⟨br, 4, none⟩ (.string (sL r2))) B br bg n x A c P r2 ∧ Below br w (w.setCell ⟨br, 4, none⟩ (.string (sL r2))) :=
  ⟨⟨by rw [blk_set h.hb]; rfl, ownsRow_setCell_below h.own h.lt _, h.lt, by simpa [World.setCell] using h.le⟩, (Below.refl br w).setCell (p := ⟨br, 4, none⟩) (Nat.le_refl _) _⟩
end
set_option maxHeartbeats 1000000 in
theorem lacks_any (br n N c : Nat) (A : Option Addr) (w : World) (h1 : w.cell? ⟨br, 1, none⟩ = some (.int .i64 n)) (h3 : w.cell? ⟨br, 3, none⟩ = some (.slice A N c)) :
    Calls Tryd.prog 139 #[.pointer (some ⟨br, 0, none⟩)] w fun e w' => e = .returned (.bool (decide (N < n))) ∧ ∃ m, w' = w.drewN m := by
  have HD := Lib.hid (show decide ((N : Int) < (n : Int)) = decide (N < n) by rw [decide_eq_decide]; omega)
  go_enter Tryd.func139, Tryd.ntmps139
  go_wp2_with fail
  go_quiet (fail)
  go_wp2_with fail
  go_ret
  exact ⟨by first | rfl | (rw [← HD.out]; rfl), _, rfl⟩
set_option maxRecDepth 4000 in
set_option maxHeartbeats 2000000 in
theorem add_any (B br n x : Nat) (bg : Bool) (A : Option Addr) (c : Nat) (P : List (List UInt8)) (rr : List UInt8) (pg : List UInt8) (w : World) (hn : n ≤ 64) (h : RdSt w B br bg n x A c P rr) (hP : P.length ≤ 64) :
    Calls Tryd.prog 186 #[.pointer (some ⟨br, 0, none⟩), .string (sL pg)] w fun e w' =>
      (P.length < n ∧ e = .returned (.bool true) ∧ (∃ A' c', RdSt w' B br bg n x A' c' (P ++ [pg]) rr) ∧ Below br w w') ∨ (¬ P.length < n ∧ e = .returned (.bool false) ∧ RdSt w' B br bg n x A c P rr ∧ Below br w w') := by
  have HL := Lib.hid (lacks_any br n P.length c A w h.c1 h.c3)
  have HS := Lib.hid (fun m => h.drewN m)
  have HB := Lib.hid (fun m => bdDN (Below.refl br w) m)
  clear h
  by_cases hlt : P.length < n
  · rw [decide_eq_true hlt] at HL
    obtain ⟨N, hN⟩ : ∃ N, P.length = N := ⟨_, rfl⟩
    have HN := Lib.hid hN
    have HLT := Lib.hid hlt
    have HBy := Lib.hid (show (N + 1) * 16 ≤ 140737488355328 by omega)
    obtain ⟨sp, hsp⟩ : ∃ sp, sL pg = sp := ⟨_, rfl⟩
    have HSP := Lib.hid hsp
    rw [hsp]
    clear hlt hP hn hN hsp
    go_enter Tryd.func186, Tryd.ntmps186
    go_wp2_with fail
    refine HL.out.mono ?_
    rintro e w' ⟨rfl, m, rfl⟩
    have S1 := Lib.hid (HS.out m)
    have B1 := Lib.hid (HB.out m)
    generalize w.drewN m = w1 at *
    have c3 := S1.out.c3
    rw [HN.out] at c3
    have OW := Lib.hid (S1.out.own)
    rw [HN.out] at OW
    have c3a := cell_up (o := .cells #[.string sp] 9) c3
    go_wp2_with ((with_reducible show wpList _ _ _ (⟨some 15, _, _, _, _, _⟩ :: _) _ _); refine app eTxt rfl (.tmp 12) (.tmp 14) rfl rfl (w0 := w1) (OW.out.alloc _) ((Below.refl B w1).alloc S1.out.le (.cells #[.string sp] 9)) (size_alloc' S1.out.le _) rfl (Rd.one w1 (.string sp) 9 (Nat.lt_succ_self _)) (by simp) (txts_one [sp]) (N + 1) rfl HBy.out ?_; intro A2 c2 w3 o2 b2 _ _; have hb3 := (b2.block br S1.out.lt).trans S1.out.hb; have f3 := blk_free hb3 3; have d3 := (blk_cell (j := 3) hb3).trans (show _ = some (.slice A N c) by rw [← HN.out]; rfl); have HB3 := Lib.hid hb3; have HO3 := Lib.hid o2; have BB3 := Lib.hid b2; clear o2 b2 hb3)
    go_ret
    refine .inl ⟨HLT.out, rfl, ⟨A2, c2, ?_⟩, ?_⟩
    · refine ⟨?_, ?_, S1.out.lt, ?_⟩
      · rw [blk_set HB3.out, List.length_append, HN.out]; rfl
      · have := ownsRow_setCell_below HO3.out (a := ⟨br, 3, none⟩) S1.out.lt (.slice A2 (N + 1) c2)
        rw [List.length_append, HN.out, txl_app, show txl [pg] = [Value.string sp] by rw [← HSP.out]; rfl]
        exact this
      · have := Nat.le_trans S1.out.le BB3.out.size
        simpa [World.setCell] using this
    · exact (B1.out.trans (BB3.out.mono (Nat.le_of_lt S1.out.lt))).setCell (p := ⟨br, 3, none⟩) (Nat.le_refl _) _
  · rw [decide_eq_false hlt] at HL
    have HLT := Lib.hid hlt
    generalize sL pg = sp at *
    generalize P.length = N at *
    clear hlt hP hn
    go_enter Tryd.func186, Tryd.ntmps186
    go_wp2_with fail
    refine HL.out.mono ?_
    rintro e w' ⟨rfl, m, rfl⟩
    go_wp2_with fail
    go_ret
    exact .inr ⟨HLT.out, rfl, HS.out m, HB.out m⟩
end Go.Proofs.YtoenecgjiejljaaDoor

/-
  The walks of quarter, names of the reference. No condition.
-/
import Derived.Test.YtnnlbllkckakbaaDoorWi3
import Derived.Laws.CopyOwn
import Derived.WalkSpells
import Derived.Deep.RegionWith
import Derived.Deep.RegionHeld3
namespace Go.Proofs.YtnnlbllkckakbaaDoor
open Go.RowKit
set_option linter.unusedVariables false

def quaL (a b m : ByteArray) : Array Value := #[.string a, .string (a ++ ⟨#[98]⟩ ++ b), .string (a ++ m), .string (m ++ ⟨#[98]⟩ ++ a), .string m, .string (m ++ ⟨#[98]⟩ ++ b), .string (b ++ m), .string (b ++ ⟨#[98]⟩ ++ a)]
theorem Tryd.sizeEight : (Tryd.prog.info? 102).map (·.size) = some 8 := by kernel_rfl
theorem quarter_any (a b m : ByteArray) (w : World) (ha : a.size ≤ 100) (hb : b.size ≤ 100) (hm : m.size ≤ 100) :
    Calls Tryd.prog 94 #[.string a, .string b, .string m] w fun e w' => e = .returned (.agg (quaL a b m)) ∧ w' = w.alloc (.cells (quaL a b m) 102) := by
  go_enter Tryd.func94, Tryd.ntmps94
  go_wp2
  (try simp only [Exit.inBlock, Exit.then])
  refine bodyPost_ret (v := .agg (quaL a b m)) (results_cell_row rfl _ _ w.heap.size 102 _ _ _ rfl (heap_alloc_new w _) Tryd.underlying102 rfl Tryd.sizeEight) rfl ⟨rfl, rfl⟩
/-- The chief points, and the points between them. -/
def chL : List ByteArray := [⟨#[78]⟩, ⟨#[69]⟩, ⟨#[83]⟩, ⟨#[87]⟩, ⟨#[78]⟩]
def mdL : List ByteArray := [⟨#[78, 69]⟩, ⟨#[83, 69]⟩, ⟨#[83, 87]⟩, ⟨#[78, 87]⟩]
def ch (k : Nat) : ByteArray := chL.getD k ⟨#[]⟩
def md (k : Nat) : ByteArray := mdL.getD k ⟨#[]⟩
def quaB (a b m : ByteArray) : List ByteArray := [a, a ++ ⟨#[98]⟩ ++ b, a ++ m, m ++ ⟨#[98]⟩ ++ a, m, m ++ ⟨#[98]⟩ ++ b, b ++ m, b ++ ⟨#[98]⟩ ++ a]
theorem quaL_at (a b m : ByteArray) (i : Nat) : (quaL a b m)[i]? = ((quaB a b m)[i]?).map Value.string := by
  have e : quaL a b m = ((quaB a b m).map Value.string).toArray := rfl
  rw [e, List.getElem?_toArray, List.getElem?_map]
theorem qua_fin : ∀ q : Fin 4, ∀ i : Fin 8, (quaB (ch q.val) (ch (q.val + 1)) (md q.val))[i.val]? = some (nm (8 * q.val + i.val)) := by decide +kernel
theorem qua_nm {q i : Nat} (hq : q < 4) (hi : i < 8) : (quaL (ch q) (ch (q + 1)) (md q))[i]? = some (.string (nm (8 * q + i))) := by
  rw [quaL_at, qua_fin ⟨q, hq⟩ ⟨i, hi⟩]
  rfl
theorem ch_fin : ∀ q : Fin 5, (ch q.val).size ≤ 100 := by decide +kernel
theorem md_fin : ∀ q : Fin 4, (md q.val).size ≤ 100 := by decide +kernel
def chC : Array Value := #[.string ⟨#[78]⟩, .string ⟨#[69]⟩, .string ⟨#[83]⟩, .string ⟨#[87]⟩, .string ⟨#[78]⟩]
def mdC : Array Value := #[.string ⟨#[78, 69]⟩, .string ⟨#[83, 69]⟩, .string ⟨#[83, 87]⟩, .string ⟨#[78, 87]⟩]
theorem chC_at {k : Nat} (h : k < 5) : chC[k]? = some (.string (ch k)) := by
  have : k = 0 ∨ k = 1 ∨ k = 2 ∨ k = 3 ∨ k = 4 := by omega
  rcases this with rfl | rfl | rfl | rfl | rfl <;> rfl
theorem mdC_at {k : Nat} (h : k < 4) : mdC[k]? = some (.string (md k)) := by
  have : k = 0 ∨ k = 1 ∨ k = 2 ∨ k = 3 := by omega
  rcases this with rfl | rfl | rfl | rfl <;> rfl
/-- The first k names; the rest is empty. -/
def upS (k : Nat) : Array Value := ((List.range 32).map fun j => Value.string (if j < k then nm j else ⟨#[]⟩)).toArray
theorem upS_at {k j : Nat} (h : j < 32) : (upS k)[j]? = some (.string (if j < k then nm j else ⟨#[]⟩)) := by simp [upS, h]
theorem upS_next (k : Nat) : (upS k).setIfInBounds k (.string (nm k)) = upS (k + 1) := by
  apply Array.ext_getElem?
  intro j
  rw [Array.getElem?_setIfInBounds]
  rcases Nat.lt_or_ge j 32 with hj | hj
  · rw [upS_at hj, upS_at hj]
    by_cases h : k = j
    · subst h
      rw [if_pos rfl, if_pos (by simpa [upS] using hj), if_pos (by omega)]
    · rw [if_neg h]
      by_cases h2 : j < k
      · rw [if_pos h2, if_pos (by omega)]
      · rw [if_neg h2, if_neg (by omega)]
  · have e : ∀ k, (upS k)[j]? = none := fun k => by simp [upS, hj]
    rw [e, e]
    by_cases h : k = j
    · subst h
      rw [if_pos rfl, if_neg (by simpa [upS] using hj)]
    · rw [if_neg h]
def E0 : Value := .string ⟨#[]⟩
theorem upS_zero : upS 0 = #[.string ⟨#[]⟩, .string ⟨#[]⟩, .string ⟨#[]⟩, .string ⟨#[]⟩, .string ⟨#[]⟩, .string ⟨#[]⟩, .string ⟨#[]⟩, .string ⟨#[]⟩, .string ⟨#[]⟩, .string ⟨#[]⟩, .string ⟨#[]⟩, .string ⟨#[]⟩, .string ⟨#[]⟩, .string ⟨#[]⟩, .string ⟨#[]⟩, .string ⟨#[]⟩, .string ⟨#[]⟩, .string ⟨#[]⟩, .string ⟨#[]⟩, .string ⟨#[]⟩, .string ⟨#[]⟩, .string ⟨#[]⟩, .string ⟨#[]⟩, .string ⟨#[]⟩, .string ⟨#[]⟩, .string ⟨#[]⟩, .string ⟨#[]⟩, .string ⟨#[]⟩, .string ⟨#[]⟩, .string ⟨#[]⟩, .string ⟨#[]⟩, .string ⟨#[]⟩] := rfl
theorem upS_size (k : Nat) : (upS k).size = 32 := by simp [upS]
theorem Tryd.sizeStrs : (Tryd.prog.info? 82).map (·.size) = some 32 := by kernel_rfl
theorem size_strs (k : Nat) : (Tryd.prog.info? 82).map (·.size) = some (upS k).size := by rw [upS_size]; exact Tryd.sizeStrs
theorem two_blk (w : World) (X Y : Array Value) (t : TypeId) : ∃ Wx, ((w.alloc (.cells X t)).alloc (.cells Y t)).drew = Wx ∧ Wx.heap[w.heap.size]? = some (.cells X t (0, 0)) ∧ Wx.heap[w.heap.size + 1]? = some (.cells Y t (0, 0)) ∧ Below w.heap.size w Wx :=
  ⟨_, rfl, heap_alloc2_old w _ _, heap_alloc2_new w _ _, ((((Below.refl _ w).alloc (Nat.le_refl _) _).alloc (by simp) _)).drew⟩
set_option maxHeartbeats 4000000 in
theorem names_any (w : World) : Calls Tryd.prog 73 #[] w fun e w' => e = .returned (.agg (upS 32)) ∧ Below w.heap.size w w' := by
  obtain ⟨W1, hW1, g1, s1, b1⟩ := one_blk w (upS 0) 82
  obtain ⟨W2, hW2, g2, s2, b2⟩ := one_blk W1 (upS 0) 82
  obtain ⟨W3, hW3, g3, s3, b3⟩ := one_blk W2 chC 100
  obtain ⟨W4, hW4, g4, s4, b4⟩ := one_blk W3 mdC 101
  rw [upS_zero] at hW1 hW2
  unfold chC at hW3
  unfold mdC at hW4
  have hs13 := Nat.lt_trans s1 s2
  have G1 := Lib.hid ((b4.block _ (Nat.lt_trans hs13 s3)).trans ((b3.block _ hs13).trans ((b2.block _ s1).trans g1)))
  have G2 := Lib.hid ((b4.block _ (Nat.lt_trans s2 s3)).trans ((b3.block _ s2).trans g2))
  have G3 := Lib.hid ((b4.block _ s3).trans g3)
  have G4 := Lib.hid g4
  have BB := Lib.hid (b1.trans ((b2.trans ((b3.trans (b4.mono b3.size)).mono b2.size)).mono b1.size))
  have N := Lib.hid (And.intro s1 (And.intro s2 s3))
  clear g1 s1 b1 g2 s2 b2 g3 s3 b3 g4 s4 b4 hs13
  go_enter Tryd.func73, Tryd.ntmps73
  go_wp2_with fail
  clear hW1 hW2 hW3 hW4
  go_loopw [4] (fun p wr => ∃ k : Nat, k ≤ 4 ∧ p = .int .i64 k ∧ wr.heap[w.heap.size]? = some (.cells (upS 0) 82 (0, 0)) ∧ wr.heap[W1.heap.size]? = some (.cells (upS (8 * k)) 82 (0, 0)) ∧ wr.heap[W2.heap.size]? = some (.cells chC 100 (0, 0)) ∧ wr.heap[W3.heap.size]? = some (.cells mdC 101 (0, 0)) ∧ Below w.heap.size w wr) (fun p _ => 4 - (intOf p).toNat)
  case atStart => exact ⟨0, by omega, rfl, G1.out, G2.out, G3.out, G4.out, BB.out⟩
  case round =>
    obtain ⟨q, hq, rfl, h1, h2, h3, h4, hb⟩ := hrel
    have A1 := Lib.hid h1
    have A2 := Lib.hid h2
    have A3 := Lib.hid h3
    have A4 := Lib.hid h4
    have BW := Lib.hid hb
    clear h1 h2 h3 h4 hb
    obtain ⟨wo, rfl⟩ : ∃ wo : World, wo = wr := ⟨_, rfl⟩
    by_cases hlt : q < 4
    · have HQ := Lib.hid (fun w => quarter_any (ch q) (ch (q + 1)) (md q) w (ch_fin ⟨q, by omega⟩) (ch_fin ⟨q + 1, by omega⟩) (md_fin ⟨q, hlt⟩))
      have c1 : wo.cell? ⟨W2.heap.size, q, none⟩ = some (.string (ch q)) := by rw [blk_cell A3.out]; exact chC_at (by omega)
      have c2 : wo.cell? ⟨W2.heap.size, q + 1, none⟩ = some (.string (ch (q + 1))) := by rw [blk_cell A3.out]; exact chC_at (by omega)
      have c3 : wo.cell? ⟨W3.heap.size, q, none⟩ = some (.string (md q)) := by rw [blk_cell A4.out]; exact mdC_at (by omega)
      have i1 : ((q : Int) + 1) < 5 := by omega
      have i2 : q + 1 < 5 := by omega
      have i7 : (0 : Int) ≤ (q : Int) := by omega
      have i8 : (q : Int) < 5 := by omega
      have i9 : (q : Int) < 4 := by omega
      have i3 : 0 ≤ (q : Int) + 1 := by omega
      have i4 : q < 5 := by omega
      have i5 : ((q : Int) + 1).toNat = q + 1 := by omega
      have i6 : IntKind.i64.wrap ((q : Int) + 1) = (q : Int) + 1 := by rw [IntKind.wrap_i64]; omega
      have l2 : W2.heap.size < wo.heap.size := lt_of_block A3.out
      have l3 : W3.heap.size < wo.heap.size := lt_of_block A4.out
      have D1 := Lib.hid ((Below.refl wo.heap.size wo).drew)
      have HK := Lib.hid (fun (w2 : World) (h : Below wo.heap.size wo w2) => And.intro ((h.cell (p := ⟨W2.heap.size, q, none⟩) l2).trans c1) (And.intro ((h.cell (p := ⟨W2.heap.size, q + 1, none⟩) l2).trans c2) ((h.cell (p := ⟨W3.heap.size, q, none⟩) l3).trans c3)))
      have HA := Lib.hid (fun i hi => qua_nm (q := q) (i := i) hlt hi)
      obtain ⟨Wx, hWx, x0, x1, bx⟩ := two_blk wo (quaL (ch q) (ch (q + 1)) (md q)) (quaL (ch q) (ch (q + 1)) (md q)) 102
      have HW := Lib.hid hWx
      have X0 := Lib.hid x0
      have X1 := Lib.hid x1
      have BX := Lib.hid bx
      clear hWx x0 x1 bx
      unfold quaL at HQ HW
      generalize ch q = a at *
      generalize ch (q + 1) = b at *
      generalize md q = m at *
      go_wp2_with fail
      go_region_held3 (fun w' => w'.cell? ⟨W2.heap.size, q, none⟩ = some (.string a) ∧ w'.cell? ⟨W2.heap.size, q + 1, none⟩ = some (.string b) ∧ w'.cell? ⟨W3.heap.size, q, none⟩ = some (.string m))
        (go_keep)
        ((go_at_call 94; refine (HQ.out _).mono ?_; rintro e w2 ⟨rfl, rfl⟩))
      all_goals (
        have hw := HW.out
        rw [hw]
        clear hw)
      all_goals (
        (first
          | (obtain ⟨g, hg⟩ : ∃ g, g = wo.heap.size + 1 := ⟨_, rfl⟩
             rw [← hg]
             have xg := X1.out
             rw [← hg] at xg
             have XG := Lib.hid xg
             have hgl : wo.heap.size ≤ g := by omega
             clear hg xg)
          | (obtain ⟨g, hg⟩ : ∃ g, g = wo.heap.size := ⟨_, rfl⟩
             rw [← hg]
             have xg := X0.out
             rw [← hg] at xg
             have XG := Lib.hid xg
             have hgl : wo.heap.size ≤ g := by omega
             clear hg xg))
        have l1 := lt_of_block A2.out
        have l0 := lt_of_block A1.out
        have Y0 := Lib.hid ((BX.out.block _ l0).trans A1.out)
        have Y1 := Lib.hid ((BX.out.block _ l1).trans A2.out)
        have Y2 := Lib.hid ((BX.out.block _ l2).trans A3.out)
        have Y3 := Lib.hid ((BX.out.block _ l3).trans A4.out)
        have BY := Lib.hid (BW.out.trans (BX.out.mono BW.out.size))
        have n1 := N.out.1
        have NE := Lib.hid (show w.heap.size ≠ W1.heap.size ∧ W2.heap.size ≠ W1.heap.size ∧ W3.heap.size ≠ W1.heap.size ∧ g ≠ W1.heap.size from ⟨by have := N.out; omega, by have := N.out; omega, by have := N.out; omega, by omega⟩)
        clear c1 c2 c3 i1 i2 i3 i4 i5 i6 i7 i8 i9 HK D1 HQ HW X0 X1 BX A1 A2 A3 A4
        go_wp2_with fail
        go_loopw [6] (fun p wr => ∃ k : Nat, k ≤ 8 ∧ p = .int .i64 k ∧ wr.heap[w.heap.size]? = some (.cells (upS 0) 82 (0, 0)) ∧ wr.heap[W1.heap.size]? = some (.cells (upS (8 * q + k)) 82 (0, 0)) ∧ wr.heap[W2.heap.size]? = some (.cells chC 100 (0, 0)) ∧ wr.heap[W3.heap.size]? = some (.cells mdC 101 (0, 0)) ∧ wr.heap[g]? = some (.cells (quaL a b m) 102 (0, 0)) ∧ Below w.heap.size w wr) (fun p _ => 8 - (intOf p).toNat)
        (case atStart => exact ⟨0, by omega, rfl, Y0.out, Y1.out, Y2.out, Y3.out, XG.out, BY.out⟩)
        (case round =>
          obtain ⟨i, hi, rfl, h0, h1, h2, h3, h5, hb⟩ := hrel
          have A0 := Lib.hid h0
          have A1 := Lib.hid h1
          have A2 := Lib.hid h2
          have A3 := Lib.hid h3
          have A5 := Lib.hid h5
          have BV := Lib.hid hb
          clear h0 h1 h2 h3 h5 hb
          by_cases hlt2 : i < 8
          · obtain ⟨j, hj⟩ : ∃ j : Nat, j = 8 * q + i := ⟨_, rfl⟩
            have HJ := Lib.hid hj
            have e8 : 8 * (q : Int) + (i : Int) = (j : Int) := by omega
            have hj32 : j < 32 := by omega
            have c4 : wr.cell? ⟨g, i, none⟩ = some (.string (nm j)) := by rw [blk_cell A5.out, hj]; exact HA.out i hlt2
            have c5 : wr.cell? ⟨W1.heap.size, j, none⟩ = some (.string (if j < 8 * q + i then nm j else ⟨#[]⟩)) := by rw [blk_cell A1.out]; exact upS_at hj32
            have hfree := blk_free A1.out j
            have HN := Lib.hid (upS_next j)
            generalize nm j = nj at *
            clear hj
            go_wp2_with fail
            go_roundw
            (case rel => exact ⟨i + 1, by omega, by go_num, (heap_setCell_other _ _ _ _ NE.out.1).trans A0.out, by rw [blk_set A1.out, ← HJ.out, HN.out, HJ.out]; rfl, (heap_setCell_other _ _ _ _ NE.out.2.1).trans A2.out, (heap_setCell_other _ _ _ _ NE.out.2.2.1).trans A3.out, (heap_setCell_other _ _ _ _ NE.out.2.2.2).trans A5.out, Below.setCell BV.out (by simp; omega) _⟩)
            (case measure => simp [intOf]; omega)
          · have hks : i = 8 := by omega
            subst hks
            go_wp2_with fail
            go_roundw
            (case rel => exact ⟨q + 1, by omega, by go_num, A0.out, by rw [show 8 * (q + 1) = 8 * q + 8 by omega]; exact A1.out, A2.out, A3.out, BV.out⟩)
            (case measure => simp [intOf]; omega)))
    · have hks : q = 4 := by omega
      subst hks
      go_wp2_with (first | ((with_reducible show wpList _ _ _ (⟨some 36, _, _, _, _, _⟩ :: _) _ _); refine wpList_load_row rfl 82 (.tmp 1) rfl W1.heap.size rfl _ _ _ _ A2.out Tryd.underlying82 rfl (size_strs _) ?_) | (refine wpList_store_row rfl 82 (.tmp 0) (.tmp 36) rfl w.heap.size _ rfl rfl _ _ A1.out (size_strs _) (by rw [upS_size, upS_size]) (by simp [upS, Value.oneCell']) ?_))
      (try simp only [Exit.inBlock, Exit.then])
      refine bodyPost_ret (v := .agg (upS (8 * 4))) (results_cell_row rfl _ _ w.heap.size 82 _ _ _ rfl (setRow_heap _ _ _ _ _ _ A1.out) Tryd.underlying82 rfl (size_strs _)) rfl ⟨rfl, below_setRow BW.out (Nat.le_refl _) _⟩
end Go.Proofs.YtnnlbllkckakbaaDoor

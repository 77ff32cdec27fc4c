/-
  Ranks: the walk of what ranksOf calls in each round (a function inside it, which writes the captured variables). Conditions: how its variables lie.
-/
import Derived.Test.YtldepjpalhmpnaaLu7
namespace Go.Proofs.Ytldepjpalhmpnaa
open Go.RowKit
set_option linter.unusedVariables false

def rowV (f : Nat → Value) (n : Nat) : Array Value := ((List.range n).map f).toArray
theorem rowV_at {f : Nat → Value} {n j : Nat} (h : j < n) : (rowV f n)[j]? = some (f j) := by simp [rowV, h]
theorem rowV_size (f : Nat → Value) (n : Nat) : (rowV f n).size = n := by simp [rowV]
theorem rowV_congr {f g : Nat → Value} {n : Nat} (h : ∀ j, j < n → f j = g j) : rowV f n = rowV g n := by
  unfold rowV
  congr 1
  exact List.map_congr_left fun j hj => by rw [h j (List.mem_range.1 hj)]
theorem rowV_set (f : Nat → Value) (n k : Nat) (v : Value) : (rowV f n).setIfInBounds k v = rowV (fun j => if j = k then v else f j) n := by
  unfold rowV
  rw [List.setIfInBounds_toArray]
  congr 1
  refine List.ext_getElem? fun j => ?_
  rw [List.getElem?_set]
  simp only [List.getElem?_map, List.length_map, List.length_range]
  by_cases hj : k = j
  · subst hj
    by_cases hk : k < n
    · rw [if_pos rfl, if_pos hk, List.getElem?_range hk]; simp
    · rw [if_pos rfl, if_neg hk, List.getElem?_eq_none (by simpa using hk)]; rfl
  · rw [if_neg hj]
    by_cases hjn : j < n
    · rw [List.getElem?_range hjn]; simp [Ne.symm hj]
    · rw [List.getElem?_eq_none (by simpa using hjn)]; rfl
def rowI (f : Nat → Int) (n : Nat) : Array Value := rowV (fun p => .int .i64 (f p)) n
theorem rowI_congr {f g : Nat → Int} {n : Nat} (h : ∀ j, j < n → f j = g j) : rowI f n = rowI g n := rowV_congr fun j hj => by rw [h j hj]
theorem rowI_set (f : Nat → Int) (n k : Nat) (v : Int) : (rowI f n).setIfInBounds k (.int .i64 v) = rowI (fun j => if j = k then v else f j) n := by
  unfold rowI
  rw [rowV_set]
  refine rowV_congr fun j hj => ?_
  by_cases h : j = k
  · rw [if_pos h]
    show _ = Value.int .i64 (if j = k then v else f j)
    rw [if_pos h]
  · rw [if_neg h]
    show _ = Value.int .i64 (if j = k then v else f j)
    rw [if_neg h]
theorem rowI_ints (f : Nat → Int) (n : Nat) : rowI f n = (ints ((List.range n).map f)).toArray := by
  unfold rowI rowV ints
  rw [List.map_map]
  rfl
/-- Nothing but the block g has turned. -/
def Only (g : Nat) (w w' : World) : Prop := w'.os = w.os ∧ w'.tape = w.tape ∧ w'.output = w.output ∧ w'.heap.size = w.heap.size ∧ ∀ b, b ≠ g → w'.heap[b]? = w.heap[b]?
theorem Only.refl (g : Nat) (w : World) : Only g w w := ⟨rfl, rfl, rfl, rfl, fun _ _ => rfl⟩
theorem Only.set {g : Nat} {w w' : World} (h : Only g w w') (i : Nat) (u : Value) : Only g w (w'.setCell ⟨g, i, none⟩ u) := by
  refine ⟨h.1, h.2.1, h.2.2.1, ?_, fun b hb => ?_⟩
  · rw [← h.2.2.2.1]
    simp [World.setCell]
  · rw [← h.2.2.2.2 b hb]
    simp [World.setCell, Array.getElem?_modify, Ne.symm hb]
theorem Only.cell {g : Nat} {w w' : World} (h : Only g w w') {b o : Nat} (hb : b ≠ g) : w'.cell? ⟨b, o, none⟩ = w.cell? ⟨b, o, none⟩ := by
  unfold World.cell?
  simp only [h.2.2.2.2 b hb]
theorem Only.below {g B : Nat} {w w' : World} (h : Only g w w') (hB : B ≤ g) : Below B w w' := ⟨h.1, h.2.1, h.2.2.1, Nat.le_of_eq h.2.2.2.1.symm, fun k hk => h.2.2.2.2 k (by omega)⟩
theorem heap_set_far {w : World} {g b : Nat} (h : b ≠ g) (i : Nat) (u : Value) : (w.setCell ⟨g, i, none⟩ u).heap[b]? = w.heap[b]? := by
  simp [World.setCell, Array.getElem?_modify, Ne.symm h]
/-- How the variables of ranksOf lie. -/
structure RkSt (w : World) (br bs bx M n : Nat) (r R : Nat) (f : Nat → Int) : Prop where
  hr : w.heap[br]? = some (.cells #[.int .i64 (r : Int)] 3 (0, 0))
  hs : w.heap[bs]? = some (.cells #[.slice (some ⟨M, 0, none⟩) n n] 22 (0, 0))
  hx : w.heap[bx]? = some (.cells #[.int .u32 (R : Int)] 43 (0, 0))
  hM : w.heap[M]? = some (.cells (rowI f n) 3 (0, 0))
structure Dis (B br bs bx M : Nat) : Prop where
  a : br ≠ bs
  b : br ≠ bx
  c : br ≠ M
  d : bs ≠ bx
  e : bs ≠ M
  f : bx ≠ M
  b1 : B ≤ br
  b2 : B ≤ bs
  b3 : B ≤ bx
  b4 : B ≤ M
theorem RkSt.up {w w' : World} {br bs bx M n r R : Nat} {f : Nat → Int} (h : RkSt w br bs bx M n r R f) (hb : Below w.heap.size w w') : RkSt w' br bs bx M n r R f :=
  ⟨(hb.block _ (lt_of_block h.hr)).trans h.hr, (hb.block _ (lt_of_block h.hs)).trans h.hs, (hb.block _ (lt_of_block h.hx)).trans h.hx, (hb.block _ (lt_of_block h.hM)).trans h.hM⟩
theorem lst_all {F n : Nat} (hF : F < 2 ^ n) (hn : n ≤ 16) {k : Nat} {d : Int} (h : (lst F)[k]? = some d) : ∃ p : Nat, d = (p : Int) ∧ p < n ∧ F.testBit p = true := by
  obtain ⟨p, hp, h16, hf⟩ := listK_mem (List.mem_of_getElem? h)
  exact ⟨p, hp, bit_in hF hf, hf⟩
theorem memB_lst {F : Nat} (p : Nat) (hp : p < 16) : memB (lst F) p = F.testBit p := memB_listK _ 16 p hp
set_option maxRecDepth 4000 in
set_option maxHeartbeats 1600000 in
theorem grow_any (F r R n : Nat) (f : Nat → Int) (br bs bx M B : Nat) (w : World) (hst : RkSt w br bs bx M n r R f) (hd : Dis B br bs bx M) (hF : F < 2 ^ n) (hn : n ≤ 16) (hR : R < 4294967296) (hr : r ≤ 100) (hBw : B ≤ w.heap.size) :
    Calls Try.prog 35 #[.int .u32 F, .pointer (some ⟨br, 0, none⟩), .pointer (some ⟨bs, 0, none⟩), .pointer (some ⟨bx, 0, none⟩)] w fun e w' =>
      e = .returned (.tuple #[]) ∧ RkSt w' br bs bx M n (r + 1) (R ||| F) (fun p => if F.testBit p then (r : Int) else f p) ∧ Below B w w' := by
  have hpl : 2 ^ n ≤ 65536 := show 2 ^ n ≤ 2 ^ 16 from Nat.pow_le_pow_right (by omega) hn
  have HL := Lib.hid (fun w => list_any F w (by omega))
  have ST := Lib.hid hst
  have D := Lib.hid hd
  have HA := Lib.hid (fun k d h => lst_all hF hn (k := k) (d := d) h)
  have HOr := Lib.hid (u32_or_nat R F hR (by omega))
  have HMem := Lib.hid (fun p hp => memB_lst (F := F) p hp)
  have hLl := lst_le F
  obtain ⟨L, hL⟩ : ∃ L, lst F = L := ⟨_, rfl⟩
  rw [hL] at HL HA HMem hLl
  clear hst hd hF hL
  go_enter Try.func35, Try.ntmps35
  go_wp2_with fail
  refine (HL.out w).mono ?_
  rintro e w1 ⟨A, c, rfl, hc, hfr, hrd, hb⟩
  have R1 := Lib.hid hrd
  have B1 := Lib.hid hb
  have ST1 := Lib.hid (ST.out.up hb)
  have FR := Lib.hid hfr
  have hMlt := Lib.hid (lt_of_block ST.out.hM)
  clear hb hfr hrd
  go_wp2_with fail
  go_loopw [10] (fun i wr => ∃ k : Nat, k ≤ L.length ∧ i = .int .i64 k ∧ wr.heap[M]? = some (.cells (rowI (fun p => if memB (L.take k) p then (r : Int) else f p) n) 3 (0, 0)) ∧ Only M w1 wr) (fun i _ => L.length - (intOf i).toNat)
  case atStart => exact ⟨0, by omega, rfl, ST1.out.hM, Only.refl _ _⟩
  case round =>
    obtain ⟨k, hk, rfl, hM, ho⟩ := hrel
    have HM := Lib.hid hM
    have O := Lib.hid ho
    clear hM ho
    have cs := Lib.hid ((O.out.2.2.2.2 _ D.out.e).trans ST1.out.hs)
    have cr := Lib.hid ((O.out.2.2.2.2 _ D.out.c).trans ST1.out.hr)
    have cx := Lib.hid ((O.out.2.2.2.2 _ D.out.f).trans ST1.out.hx)
    by_cases hlt : k < L.length
    · obtain ⟨b, o, d, rfl, hd, hc0⟩ := R1.out.int k hlt
      obtain ⟨p, rfl, hp, hFp⟩ := HA.out k d hd.out
      have hbM : b ≠ M := by have h1 := FR.out _ rfl; have h2 := hMlt.out; simp only at h1; omega
      have hc1 := (O.out.cell (o := o + k) hbM).trans hc0
      have c0 : wr.cell? ⟨bs, 0, none⟩ = some (.slice (some ⟨M, 0, none⟩) n n) := by rw [blk_cell cs.out]; rfl
      have c1 : wr.cell? ⟨br, 0, none⟩ = some (.int .i64 r) := by rw [blk_cell cr.out]; rfl
      have c2 : wr.cell? ⟨M, p, none⟩ = some (.int .i64 (if memB (L.take k) p then (r : Int) else f p)) := by rw [blk_cell HM.out]; exact rowV_at hp
      have hfree := blk_free HM.out p
      have b0 : (0 : Int) ≤ (p : Int) := by omega
      have b1 : (p : Int) < (n : Int) := by omega
      have HN := Lib.hid (fun q => memB_next hd.out q)
      have HS := Lib.hid (blk_set HM.out p (.int .i64 (r : Int)))
      have OS := Lib.hid (O.out.set p (.int .i64 (r : Int)))
      clear hc0 hFp
      generalize (if memB (L.take k) p then (r : Int) else f p) = old at c2
      go_wp2_with fail
      go_roundw
      case rel =>
        refine ⟨k + 1, by omega, by go_num, ?_, OS.out⟩
        rw [HS.out, rowI_set]
        rw [show rowI (fun j => if j = p then (r : Int) else if memB (L.take k) j then (r : Int) else f j) n = rowI (fun q => if memB (L.take (k + 1)) q then (r : Int) else f q) n from rowI_congr fun j _ => by
          rw [HN.out j]
          by_cases hjp : j = p
          · subst hjp; simp
          · rw [if_neg hjp, decide_eq_false (show ¬ p = j from fun h => hjp h.symm), Bool.or_false]]
      case measure => simp [intOf]; omega
    · have hks : k = L.length := by omega
      subst hks
      have c1 : wr.cell? ⟨br, 0, none⟩ = some (.int .i64 r) := by rw [blk_cell cr.out]; rfl
      have c3 : wr.cell? ⟨bx, 0, none⟩ = some (.int .u32 R) := by rw [blk_cell cx.out]; rfl
      have f1 := blk_free cx.out 0
      have f2 := blk_free cr.out 0
      have D2 := D.out
      have nb := D2.b
      have c4 : (wr.setCell ⟨bx, 0, none⟩ (.int .u32 ((R ||| F : Nat) : Int))).cell? ⟨br, 0, none⟩ = some (.int .i64 r) := (((Only.refl bx wr).set 0 (.int .u32 ((R ||| F : Nat) : Int))).cell nb).trans c1
      have HO := HOr.out
      have HM2 := HM.out
      rw [List.take_length] at HM2
      have HM3 := Lib.hid HM2
      clear D2 HM2
      go_wp2_with fail
      go_end0
      have D3 := D.out
      have hM2 := HM3.out
      rw [show rowI (fun p => if memB L p then (r : Int) else f p) n = rowI (fun p => if F.testBit p then (r : Int) else f p) n from rowI_congr fun j hj => by rw [HMem.out j (by omega)]] at hM2
      refine ⟨rfl, ⟨?_, ?_, ?_, ?_⟩, ?_⟩
      · rw [blk_set ((heap_set_far D3.b _ _).trans cr.out)]; rfl
      · exact ((heap_set_far (Ne.symm D3.a) _ _).trans (heap_set_far D3.d _ _)).trans cs.out
      · rw [heap_set_far (Ne.symm D3.b), blk_set cx.out]; rfl
      · exact ((heap_set_far (Ne.symm D3.c) _ _).trans (heap_set_far (Ne.symm D3.f) _ _)).trans hM2
      · exact (B1.out.mono hBw).trans ((O.out.below D3.b4).trans ((((Only.refl bx _).set 0 _).below D3.b3).trans (((Only.refl br _).set 0 _).below D3.b1)))
end Go.Proofs.Ytldepjpalhmpnaa

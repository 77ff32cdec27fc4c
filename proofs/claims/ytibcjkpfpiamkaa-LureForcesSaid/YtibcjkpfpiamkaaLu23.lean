/-
  Plans: the walks of the two functions that tell which moves suit, of IndexFunc, of planOf over both. Conditions: how what they read lies.
-/
import Derived.Test.YtibcjkpfpiamkaaLu22
namespace Go.Proofs.Ytibcjkpfpiamkaa
open Go.RowKit
set_option linter.unusedVariables false

def suP (R : List Int) (f t : Nat) : Bool := !decide (R.getD t 0 = -1) && decide (R.getD t 0 < R.getD f 0)
def suF (R : List Int) (f t : Nat) : Bool := decide (R.getD f 0 = -1) && decide (R.getD t 0 = -1)
set_option maxRecDepth 4000 in
set_option maxHeartbeats 800000 in
theorem suitP_any (R : List Int) (f t br : Nat) (A : Option Addr) (c : Nat) (w : World) (hc : w.cell? ⟨br, 0, none⟩ = some (.slice A R.length c)) (hr : Rd w w.heap.size A (ints R)) (hf : f < R.length) (ht : t < R.length) :
    Calls Try.prog 72 #[.int .i64 f, .int .i64 t, .pointer (some ⟨br, 0, none⟩)] w fun e w' => e = .returned (.bool (suP R f t)) ∧ Below w.heap.size w w' := by
  obtain ⟨b, o, x, rfl, hx, c0⟩ := hr.int t ht
  obtain ⟨b', o', y, hb, hy, c1⟩ := hr.int f hf
  cases hb
  have HS := Lib.hid (show suP R f t = (!decide (x = -1) && decide (x < y)) by unfold suP; rw [getD_at hx.out, getD_at hy.out])
  have h0 : (0 : Int) ≤ (t : Int) := by omega
  have h1 : (t : Int) < (R.length : Int) := by omega
  have h2 : (0 : Int) ≤ (f : Int) := by omega
  have h3 : (f : Int) < (R.length : Int) := by omega
  by_cases hq : x = -1
  · have e1 : (x != -1) = false := by simpa using hq
    rw [show (!decide (x = -1) && decide (x < y)) = false by rw [decide_eq_true hq]; rfl] at HS
    clear hr hq
    go_enter Try.func72, Try.ntmps72
    go_wp2_with fail
    go_quiet (fail)
    go_wp2_with fail
    go_ret
    exact ⟨by rw [HS.out]; rfl, bdN (Below.refl _ _) _⟩
  · have e1 : (x != -1) = true := by simpa using hq
    rw [show (!decide (x = -1) && decide (x < y)) = decide (x < y) by rw [decide_eq_false hq]; rfl] at HS
    obtain ⟨q, hq2⟩ : ∃ q, decide (x < y) = q := ⟨_, rfl⟩
    rw [hq2] at HS
    clear hr hq
    cases q
    · go_enter Try.func72, Try.ntmps72
      go_wp2_with fail
      go_quiet (fail)
      go_wp2_with fail
      go_ret
      exact ⟨by rw [HS.out]; rfl, bdN (Below.refl _ _) _⟩
    · go_enter Try.func72, Try.ntmps72
      go_wp2_with fail
      go_quiet (fail)
      go_wp2_with fail
      go_ret
      exact ⟨by rw [HS.out]; rfl, bdN (Below.refl _ _) _⟩
set_option maxRecDepth 4000 in
set_option maxHeartbeats 800000 in
theorem suitF_any (R : List Int) (f t br : Nat) (A : Option Addr) (c : Nat) (w : World) (hc : w.cell? ⟨br, 0, none⟩ = some (.slice A R.length c)) (hr : Rd w w.heap.size A (ints R)) (hf : f < R.length) (ht : t < R.length) :
    Calls Try.prog 73 #[.int .i64 f, .int .i64 t, .pointer (some ⟨br, 0, none⟩)] w fun e w' => e = .returned (.bool (suF R f t)) ∧ Below w.heap.size w w' := by
  obtain ⟨b, o, x, rfl, hx, c0⟩ := hr.int t ht
  obtain ⟨b', o', y, hb, hy, c1⟩ := hr.int f hf
  cases hb
  have HS := Lib.hid (show suF R f t = (decide (y = -1) && decide (x = -1)) by unfold suF; rw [getD_at hx.out, getD_at hy.out])
  have h0 : (0 : Int) ≤ (t : Int) := by omega
  have h1 : (t : Int) < (R.length : Int) := by omega
  have h2 : (0 : Int) ≤ (f : Int) := by omega
  have h3 : (f : Int) < (R.length : Int) := by omega
  by_cases hq : y = -1
  · have e1 : (y == -1) = true := by simpa using hq
    rw [show (decide (y = -1) && decide (x = -1)) = (x == -1) by rw [decide_eq_true hq, Bool.true_and]; rfl] at HS
    clear hr hq
    generalize hqq : (x == -1) = q at HS
    cases q
    · go_enter Try.func73, Try.ntmps73
      go_wp2_with fail
      go_ret
      exact ⟨by rw [HS.out]; rfl, Below.refl _ _⟩
    · go_enter Try.func73, Try.ntmps73
      go_wp2_with fail
      go_ret
      exact ⟨by rw [HS.out]; rfl, Below.refl _ _⟩
  · have e1 : (y == -1) = false := by simpa using hq
    rw [show (decide (y = -1) && decide (x = -1)) = false by rw [decide_eq_false hq]; rfl] at HS
    clear hr hq
    go_enter Try.func73, Try.ntmps73
    go_wp2_with fail
    go_ret
    exact ⟨by rw [HS.out]; rfl, Below.refl _ _⟩
def idxF (p : Int → Bool) (L : List Int) : Int := match L.findIdx? p with
  | some i => (i : Int)
  | none => -1
theorem idx_hit {p : Int → Bool} {L : List Int} {k : Nat} {d : Int} (hd : L[k]? = some d) (h : p d = true) (ha : ∀ (j : Nat) e, j < k → L[j]? = some e → p e = false) : idxF p L = (k : Int) := by
  obtain ⟨hk, he⟩ := List.getElem?_eq_some_iff.1 hd
  have : L.findIdx? p = some k := by
    rw [List.findIdx?_eq_some_iff_getElem]
    refine ⟨hk, by rw [he]; exact h, fun j hj => ?_⟩
    have := ha j _ hj (List.getElem?_eq_getElem (by omega))
    rw [this]; decide
  unfold idxF
  rw [this]
theorem idx_none {p : Int → Bool} {L : List Int} (ha : ∀ (j : Nat) e, j < L.length → L[j]? = some e → p e = false) : idxF p L = -1 := by
  have : L.findIdx? p = none := by
    rw [List.findIdx?_eq_none_iff]
    intro x hx
    obtain ⟨j, hj, he⟩ := List.getElem_of_mem hx
    exact ha j x hj (by rw [← he]; exact List.getElem?_eq_getElem hj)
  unfold idxF
  rw [this]
theorem none_next {p : Int → Bool} {R : List Int} {k : Nat} {d : Int} (hk : R[k]? = some d) (h : p d = false) (ha : ∀ (j : Nat) e, j < k → R[j]? = some e → p e = false) : ∀ (j : Nat) e, j < k + 1 → R[j]? = some e → p e = false := fun j e hj he => by
  by_cases hjk : j = k
  · subst hjk
    obtain rfl := Option.some.inj (hk.symm.trans he)
    exact h
  · exact ha j e (by omega) he
set_option maxRecDepth 4000 in
set_option maxHeartbeats 800000 in
theorem IndexFunc_any (A : Option Addr) (c : Nat) (L : List Int) (bs bf : Nat) (p : Int → Bool) (w : World) (hr : Rd w w.heap.size A (ints L)) (hl : L.length ≤ 9223372036854775807)
    (HC : ∀ w', Below w.heap.size w w' → ∀ d ∈ L, Calls Try.prog 85 #[.int .i64 d, .pointer (some ⟨bs, 0, none⟩), .pointer (some ⟨bf, 0, none⟩)] w' fun e w'' => e = .returned (.bool (p d)) ∧ Below w'.heap.size w' w'') :
    Calls Try.prog 84 #[.slice A L.length c, .func (.func 85) #[] #[.pointer (some ⟨bs, 0, none⟩), .pointer (some ⟨bf, 0, none⟩)]] w fun e w' => e = .returned (.int .i64 (idxF p L)) ∧ Below w.heap.size w w' := by
  have HR := Lib.hid hr
  have HCC := Lib.hid HC
  have HH := Lib.hid (fun k d hd h ha => idx_hit (p := p) (L := L) (k := k) (d := d) hd h ha)
  have HN := Lib.hid (fun ha => idx_none (p := p) (L := L) ha)
  clear hr HC
  go_enter Try.func84, Try.ntmps84
  go_wp2_with fail
  go_loopw [8] (fun i wr => ∃ k : Nat, k ≤ L.length ∧ i = .int .i64 k ∧ (∀ (j : Nat) e, j < k → L[j]? = some e → p e = false) ∧ Below w.heap.size w wr) (fun i _ => L.length - (intOf i).toNat)
  case atStart => exact ⟨0, by omega, rfl, fun j e hj => by omega, Below.refl _ _⟩
  case round =>
    obtain ⟨k, hk, rfl, hall, hb⟩ := hrel
    have HA := Lib.hid hall
    have BW := Lib.hid hb
    clear hall hb
    by_cases hlt : k < L.length
    · obtain ⟨b, o, d, rfl, hd, hc⟩ := (HR.out.below BW.out (Nat.le_refl _)).int k hlt
      have HQ := Lib.hid (HCC.out wr BW.out d (List.mem_of_getElem? hd.out))
      cases hp : p d
      · have HX := Lib.hid (none_next hd.out hp HA.out)
        rw [hp] at HQ
        clear hp
        go_wp2_with (go_at_call 85; refine HQ.out.mono ?_; rintro e w2 ⟨rfl, hb⟩; have B2 := Lib.hid (BW.out.trans (hb.mono BW.out.size)); clear hb)
        go_roundw
        case rel => exact ⟨k + 1, by omega, by go_num, HX.out, B2.out⟩
        case measure => simp [intOf]; omega
      · have HX := Lib.hid (HH.out k d hd.out hp HA.out)
        rw [hp] at HQ
        clear hp
        go_wp2_with (go_at_call 85; refine HQ.out.mono ?_; rintro e w2 ⟨rfl, hb⟩; have B2 := Lib.hid (BW.out.trans (hb.mono BW.out.size)); clear hb)
        go_ret
        exact ⟨by rw [HX.out]; rfl, B2.out⟩
    · have hks : k = L.length := by omega
      subst hks
      have HX := Lib.hid (HN.out HA.out)
      go_wp2_with fail
      go_ret
      exact ⟨by rw [HX.out]; rfl, BW.out⟩
/-- The plan at a place: the first move that suits. -/
def plF (G : Gm) (b : Int) (su : Nat → Nat → Bool) (p : Nat) : Int := if G.who p = b then ((G.row p).find? fun d => su p d.toNat).getD (-1) else -1
theorem plF_not {G : Gm} {b : Int} {su : Nat → Nat → Bool} {p : Nat} {d : Int} (hd : G.own[p]? = some d) (h : ¬ d = b) : plF G b su p = -1 := by
  unfold plF
  rw [who_at hd, if_neg h]
theorem plF_idx {G : Gm} {b : Int} {su : Nat → Nat → Bool} {p : Nat} {l : List Int} (hd : G.own[p]? = some b) (hl : G.row p = l) :
    (idxF (fun d => su p d.toNat) l = -1 ∧ plF G b su p = -1) ∨ ∃ (i : Nat) (d : Int), idxF (fun d => su p d.toNat) l = (i : Int) ∧ l[i]? = some d ∧ plF G b su p = d := by
  unfold plF idxF
  rw [who_at hd, if_pos rfl, hl]
  cases hx : l.findIdx? (fun d => su p d.toNat) with
  | none =>
    left
    refine ⟨rfl, ?_⟩
    rw [List.findIdx?_eq_none_iff] at hx
    rw [List.find?_eq_none.2 fun x hx2 => by rw [hx x hx2]; decide]
    rfl
  | some i =>
    right
    rw [List.findIdx?_eq_some_iff_getElem] at hx
    obtain ⟨hi, h1, h2⟩ := hx
    refine ⟨i, l[i], rfl, List.getElem?_eq_getElem hi, ?_⟩
    have : l.find? (fun d => su p d.toNat) = some l[i] := by
      rw [List.find?_eq_some_iff_getElem]
      exact ⟨h1, i, hi, rfl, fun j hj => by have := h2 j hj; simpa using this⟩
    rw [this]
    rfl
def plL (G : Gm) (b : Int) (su : Nat → Nat → Bool) : List Int := (List.range G.own.length).map (plF G b su)
theorem pl_store {w : World} {M n : Nat} {f : Nat → Int} (h : w.heap[M]? = some (.cells (rowI f n) 3 (0, 0))) (k : Nat) (v : Int) : (w.setCell ⟨M, k, none⟩ (.int .i64 v)).heap[M]? = some (.cells (rowI (fun j => if j = k then v else f j) n) 3 (0, 0)) := by rw [blk_set h, rowI_set]
set_option maxRecDepth 4000 in
set_option maxHeartbeats 800000 in
theorem plan1P_any (R : List Int) (f t br bs bf : Nat) (q : Bool) (w : World) (hs : w.cell? ⟨bs, 0, none⟩ = some (.func (.func 72) #[] #[.pointer (some ⟨br, 0, none⟩)])) (hf : w.cell? ⟨bf, 0, none⟩ = some (.int .i64 f))
    (HS : Calls Try.prog 72 #[.int .i64 f, .int .i64 t, .pointer (some ⟨br, 0, none⟩)] w fun e w' => e = .returned (.bool q) ∧ Below w.heap.size w w') :
    Calls Try.prog 85 #[.int .i64 t, .pointer (some ⟨bs, 0, none⟩), .pointer (some ⟨bf, 0, none⟩)] w fun e w' => e = .returned (.bool q) ∧ Below w.heap.size w w' := by
  have H := Lib.hid HS
  clear HS
  go_enter Try.func85, Try.ntmps85
  go_wp2_with (go_at_call 72; refine H.out.mono ?_; rintro e w2 ⟨rfl, hb⟩; have B2 := Lib.hid hb; clear hb)
  go_ret
  exact ⟨rfl, B2.out⟩
set_option maxRecDepth 4000 in
set_option maxHeartbeats 3200000 in
theorem planOfP_any (g : Gv) (b : Int) (br : Nat) (su : Nat → Nat → Bool) (w : World) (hr : RdG w w.heap.size g) (hf : Gfit g) (hE : gE g.G = 0)
    (HS : ∀ w', Below w.heap.size w w' → ∀ f t : Nat, f < g.own.length → t < g.own.length → Calls Try.prog 72 #[.int .i64 f, .int .i64 t, .pointer (some ⟨br, 0, none⟩)] w' fun e w'' => e = .returned (.bool (su f t)) ∧ Below w'.heap.size w' w'') :
    Calls Try.prog 71 #[g.v, .int .i64 b, .func (.func 72) #[] #[.pointer (some ⟨br, 0, none⟩)]] w (MadeI w (plL g.G b su)) := by
  obtain ⟨W, hl⟩ := laid_of w g hr hf hE
  have LA := Lib.hid hl
  have hn16 := hl.le
  have HSu := Lib.hid HS
  have HNot := Lib.hid (fun p d hd h => plF_not (G := g.G) (b := b) (su := su) (p := p) (d := d) hd h)
  have HIdx := Lib.hid (fun p l hd hl => plF_idx (G := g.G) (b := b) (su := su) (p := p) (l := l) hd hl)
  have HLn := Lib.hid (show (plL g.G b su).length = g.own.length by simp [plL, Gv.G])
  have HRow := Lib.hid (show plL g.G b su = (List.range g.own.length).map (plF g.G b su) from rfl)
  clear hr hf hE hl HS
  unfold Gv.v
  have hGo : g.G.own = g.own := rfl
  rw [hGo] at HNot HIdx
  generalize g.G = G at *
  obtain ⟨A0, c0, own, A1, c1, rs⟩ := g
  simp only at LA HSu HNot HIdx HLn HRow hn16 ⊢
  clear hGo
  have hW := LA.out.hW
  have p0 := LA.out.p0
  have p1 := LA.out.p1
  obtain ⟨i0, hi, hz0, hz1, hz2⟩ := info_parts Try.eInt.hi
  obtain ⟨W1, hW1, k1, s1, b1⟩ := one_blk W #[.func (.func 72) #[] #[.pointer (some ⟨br, 0, none⟩)]] 70
  have q0 := cell_keep p0 b1 LA.out.hz
  have q1 := cell_keep p1 b1 LA.out.hz
  go_enter Try.func71, Try.ntmps71
  go_wp2_with ((at_make; refine wpList_make_full _ rfl (.tmp 12) (.tmp 12) 22 rfl W1.heap.size 3 i0 (.int .i64 0) 1 Try.underlying22 hi hz0 hz1 .i64 .i64 _ _ own.length rfl rfl rfl rfl (by rw [hz2]; omega) (by simp only [maxLen]; omega) (Nat.le_refl _) ?_; intro w3 hown hgr; have MD := Lib.hid (made_ints hown hgr); clear hown hgr))
  have KS := Lib.hid k1
  have BW1 := Lib.hid (LA.out.b.trans (b1.mono LA.out.b.size))
  have RG1 := Lib.hid (LA.out.rg.up b1)
  have O1 := Lib.hid (LA.out.r0.up b1)
  have M1 := Lib.hid (LA.out.r1.up b1)
  have hz1' : w.heap.size < W1.heap.size := Nat.lt_of_lt_of_le LA.out.hz b1.size
  have ZZ := Lib.hid hz1'
  have ZS := Lib.hid s1
  clear hW hW1 hi hz0 hz1 hz2 k1 b1 p0 p1 hz1'
  clear s1
  obtain ⟨M, hM⟩ : ∃ M, W1.heap.size = M := ⟨_, rfl⟩
  have MB := Lib.hid MD.out.1
  have MR := Lib.hid (show w3.heap[M]? = some (.cells (rowI (fun p => if p < 0 then plF G b su p else 0) own.length) 3 (0, 0)) by
    rw [← hM, MD.out.2]; congr 2)
  rw [hM] at MB
  rw [hM]
  clear MD
  have Q0 := Lib.hid q0
  have Q1 := Lib.hid q1
  clear q0 q1
  go_loopw [16] (fun i wr => ∃ k : Nat, k ≤ own.length ∧ i = .int .i64 k ∧ wr.heap[M]? = some (.cells (rowI (fun p => if p < k then plF G b su p else 0) own.length) 3 (0, 0)) ∧ Below M W1 wr) (fun i _ => own.length - (intOf i).toNat)
  case atStart => exact ⟨0, by omega, rfl, MR.out, MB.out⟩
  case round =>
    obtain ⟨k, hk, rfl, hMr, hb⟩ := hrel
    have HM := Lib.hid hMr
    have hb' : Below W1.heap.size W1 wr := by rw [hM]; exact hb
    have BW := Lib.hid hb'
    have hMlt : M < wr.heap.size := lt_of_block hMr
    clear hMr hb hb'
    by_cases hlt : k < own.length
    · obtain ⟨wa, hwa, ka, sa, ba⟩ := one_blk wr #[.int .i64 (k : Int)] 3
      have HMa := (ba.block _ hMlt).trans HM.out
      obtain ⟨wb, hwb⟩ : ∃ wb, wa.setCell ⟨M, k, none⟩ (.int .i64 (-1)) = wb := ⟨_, rfl⟩
      have HMb := Lib.hid (show wb.heap[M]? = some (.cells (rowI (fun j => if j = k then -1 else if j < k then plF G b su j else 0) own.length) 3 (0, 0)) by rw [← hwb]; exact pl_store HMa k (-1))
      have c2 : wa.cell? ⟨M, k, none⟩ = some (.int .i64 (if k < k then plF G b su k else 0)) := by rw [blk_cell HMa]; exact rowV_at hlt
      generalize (if k < k then plF G b su k else 0) = old at c2
      have hfree := blk_free HMa k
      have hbel : Below M wa wb := by rw [← hwb]; exact ((Only.refl M wa).set k _).below (Nat.le_refl M)
      have BB := Lib.hid (show Below W1.heap.size W1 wb from BW.out.trans ((ba.mono (by rw [hM]; exact Nat.le_of_lt hMlt)).trans (by rw [hM]; exact hbel)))
      have hsz : wb.heap.size = wa.heap.size := by rw [← hwb]; simp [World.setCell]
      have hfr : wb.heap[wr.heap.size]? = some (.cells #[.int .i64 (k : Int)] 3 (0, 0)) := by rw [← hwb]; exact (heap_set_far (by omega) _ _).trans ka
      have ca : wa.cell? ⟨wr.heap.size, 0, none⟩ = some (.int .i64 (k : Int)) := by rw [blk_cell ka]; rfl
      have cb : wb.cell? ⟨wr.heap.size, 0, none⟩ = some (.int .i64 (k : Int)) := by rw [blk_cell hfr]; rfl
      have t0 := cell_keep Q0.out BB.out ZZ.out
      have t1 := cell_keep Q1.out BB.out ZZ.out
      have ts : wb.cell? ⟨W.heap.size, 0, none⟩ = some (.func (.func 72) #[] #[.pointer (some ⟨br, 0, none⟩)]) := by rw [blk_cell ((BB.out.block _ ZS.out).trans KS.out)]; rfl
      have OB := Lib.hid (O1.out.up BB.out)
      have MBB := Lib.hid (M1.out.up BB.out)
      obtain ⟨bo, oo, d, rfl, hd, hc⟩ := OB.out.int k hlt
      obtain ⟨b2, o', A', c', l, rfl, hx, hc', hl⟩ := MBB.out.row k (by have := LA.out.len; omega)
      have hkr : (k : Int) < (rs.length : Int) := by have := LA.out.len; omega
      have hkr2 : k < rs.length := by have := LA.out.len; omega
      have b0 : (0 : Int) ≤ (k : Int) := by omega
      have b1 : (k : Int) < (own.length : Int) := by omega
      have hset := LA.out.set k _ _ _ hx.out
      have hll := LA.out.fit _ (List.mem_of_getElem? hx.out)
      simp only at hll
      have hrow := LA.out.row k _ _ _ hx.out
      have ST := Lib.hid (show wb.heap.size = wa.heap.size ∧ wr.heap.size < wa.heap.size ∧ M < wr.heap.size from ⟨hsz, sa, hMlt⟩)
      by_cases hdb : d = b
      · subst hdb
        have e1 : (d != d) = false := by simp
        have HCall := Lib.hid (show ∀ w', Below wb.heap.size wb w' → ∀ x ∈ l, Calls Try.prog 85 #[.int .i64 x, .pointer (some ⟨W.heap.size, 0, none⟩), .pointer (some ⟨wr.heap.size, 0, none⟩)] w' fun e w'' => e = .returned (.bool (su k x.toNat)) ∧ Below w'.heap.size w' w'' from fun w' hw' x hx2 => by
          have h1 := set_mem hset hx2
          obtain ⟨t, rfl⟩ := Int.eq_ofNat_of_zero_le h1.1
          rw [Int.toNat_natCast]
          have hWb : W.heap.size < wb.heap.size := by have := BB.out.size; have := ZS.out; omega
          have h2 := BW1.out.trans (BB.out.mono BW1.out.size)
          have h3 := h2.trans (hw'.mono h2.size)
          exact plan1P_any [] k t br W.heap.size wr.heap.size (su k t) w' (cell_keep ts hw' hWb) (cell_keep cb hw' (by omega)) (HSu.out w' h3 k t hlt (by omega)))
        have HIF := Lib.hid (IndexFunc_any A' c' l W.heap.size wr.heap.size (fun x => su k x.toNat) wb hl.out hll HCall.out)
        have HR2 := HIdx.out k l hd.out hrow
        have HL2 := Lib.hid hl.out
        clear hset hrow hfr ka ba HMa hbel hsz sa hMlt HCall
        rcases HR2 with ⟨hi1, hp1⟩ | ⟨i, x, hi1, hx1, hp1⟩
        · rw [hi1] at HIF
          have HP := Lib.hid hp1
          clear hi1 hp1
          go_wp2_with fail
          refine HIF.out.mono ?_
          rintro e w5 ⟨rfl, hb⟩
          have M5 := Lib.hid ((hb.block _ (lt_of_block HMb.out)).trans HMb.out)
          have B5 := Lib.hid (BB.out.trans (hb.mono (by have := ST.out; omega)))
          clear hb
          go_wp2_with fail
          go_roundw
          case rel =>
            refine ⟨k + 1, by omega, by go_num, ?_, by rw [← hM]; exact B5.out⟩
            rw [M5.out, show rowI (fun j => if j = k then (-1 : Int) else if j < k then plF G d su j else 0) own.length = rowI (fun p => if p < k + 1 then plF G d su p else 0) own.length from rowI_congr fun j _ => by
              by_cases h1 : j = k
              · subst h1; rw [if_pos rfl, if_pos (by omega), HP.out]
              · rw [if_neg h1]
                by_cases h2 : j < k
                · rw [if_pos h2, if_pos (by omega)]
                · rw [if_neg h2, if_neg (by omega)]]
          case measure => simp [intOf]; omega
        · rw [hi1] at HIF
          have HP := Lib.hid hp1
          have HX1 := Lib.hid hx1
          have hil : i < l.length := (List.getElem?_eq_some_iff.1 hx1).1
          have f0 : decide ((0 : Int) ≤ (i : Int)) = true := by rw [decide_eq_true_eq]; omega
          have f1 : (0 : Int) ≤ (i : Int) := by omega
          have f2 : (i : Int) < (l.length : Int) := by omega
          clear hi1 hp1 hx1
          go_wp2_with fail
          refine HIF.out.mono ?_
          rintro e w5 ⟨rfl, hb⟩
          have M5 := Lib.hid ((hb.block _ (lt_of_block HMb.out)).trans HMb.out)
          have B5 := Lib.hid (BB.out.trans (hb.mono (by have := ST.out; omega)))
          have u0 := cell_keep t0 hb (by have := ST.out; have := BB.out.size; have := ZZ.out; omega)
          have u1 := cell_keep t1 hb (by have := ST.out; have := BB.out.size; have := ZZ.out; omega)
          have ub := cell_keep cb hb (by have := ST.out; omega)
          have hb2lt : b2 < wb.heap.size := World.block_lt_of_cell? wb _ hc'
          have uc := cell_keep hc' hb hb2lt
          obtain ⟨b3, o3, x2, hA3, hx3, hc3⟩ := (HL2.out.up hb).int i hil
          obtain rfl := Option.some.inj (HX1.out.symm.trans hx3.out)
          subst hA3
          have cM : w5.cell? ⟨M, k, none⟩ = some (.int .i64 (if k = k then (-1 : Int) else if k < k then plF G d su k else 0)) := by rw [blk_cell M5.out]; exact rowV_at hlt
          generalize (if k = k then (-1 : Int) else if k < k then plF G d su k else 0) = old2 at cM
          have hfree2 := blk_free M5.out k
          have M6 := Lib.hid (pl_store M5.out k x)
          have B6 := Lib.hid (show Below W1.heap.size W1 (w5.setCell ⟨M, k, none⟩ (.int .i64 x)) from B5.out.trans (by rw [hM]; exact ((Only.refl M w5).set k _).below (Nat.le_refl M)))
          clear hb
          go_wp2_with fail
          go_region
          all_goals (
            go_wp2_with fail
            go_roundw
            case rel =>
              refine ⟨k + 1, by omega, by go_num, ?_, by have h := B6.out.drew; rw [hM] at h; exact h⟩
              show (w5.setCell ⟨M, k, none⟩ (.int .i64 x)).heap[M]? = _
              rw [M6.out, show rowI (fun j => if j = k then (x : Int) else if j = k then (-1 : Int) else if j < k then plF G d su j else 0) own.length = rowI (fun p => if p < k + 1 then plF G d su p else 0) own.length from rowI_congr fun j _ => by
                by_cases h1 : j = k
                · subst h1; rw [if_pos rfl, if_pos (by omega), HP.out]
                · rw [if_neg h1, if_neg h1]
                  by_cases h2 : j < k
                  · rw [if_pos h2, if_pos (by omega)]
                  · rw [if_neg h2, if_neg (by omega)]]
            case measure => simp [intOf]; omega)
      · have e1 : (d != b) = true := by simpa using hdb
        have HP := Lib.hid (HNot.out k d hd.out hdb)
        clear hset hrow hfr ka ba HMa hbel hsz sa hMlt hdb
        go_wp2_with fail
        go_roundw
        case rel =>
          refine ⟨k + 1, by omega, by go_num, ?_, by rw [← hM]; exact BB.out⟩
          rw [HMb.out, show rowI (fun j => if j = k then (-1 : Int) else if j < k then plF G b su j else 0) own.length = rowI (fun p => if p < k + 1 then plF G b su p else 0) own.length from rowI_congr fun j _ => by
            by_cases h1 : j = k
            · subst h1; rw [if_pos rfl, if_pos (by omega), HP.out]
            · rw [if_neg h1]
              by_cases h2 : j < k
              · rw [if_pos h2, if_pos (by omega)]
              · rw [if_neg h2, if_neg (by omega)]]
        case measure => simp [intOf]; omega
    · have hks : k = own.length := by omega
      subst hks
      have HE := Lib.hid (show rowI (fun p => if p < own.length then plF G b su p else 0) own.length = (ints (plL G b su)).toArray by rw [HRow.out, ← rowI_ints]; exact rowI_congr fun j hj => by rw [if_pos hj])
      go_wp2_with fail
      go_ret
      refine ⟨_, own.length, by rw [HLn.out]; rfl, by rw [HLn.out]; exact Nat.le_refl _, fresh_at w (by have := BW1.out.size; omega), Rd.of_block (by rw [← HE.out]; exact HM.out), ?_⟩
      exact BW1.out.trans (BW.out.mono BW1.out.size)
set_option maxRecDepth 4000 in
set_option maxHeartbeats 800000 in
theorem plan1F_any (R : List Int) (f t br bs bf : Nat) (q : Bool) (w : World) (hs : w.cell? ⟨bs, 0, none⟩ = some (.func (.func 73) #[] #[.pointer (some ⟨br, 0, none⟩)])) (hf : w.cell? ⟨bf, 0, none⟩ = some (.int .i64 f))
    (HS : Calls Try.prog 73 #[.int .i64 f, .int .i64 t, .pointer (some ⟨br, 0, none⟩)] w fun e w' => e = .returned (.bool q) ∧ Below w.heap.size w w') :
    Calls Try.prog 85 #[.int .i64 t, .pointer (some ⟨bs, 0, none⟩), .pointer (some ⟨bf, 0, none⟩)] w fun e w' => e = .returned (.bool q) ∧ Below w.heap.size w w' := by
  have H := Lib.hid HS
  clear HS
  go_enter Try.func85, Try.ntmps85
  go_wp2_with (go_at_call 73; refine H.out.mono ?_; rintro e w2 ⟨rfl, hb⟩; have B2 := Lib.hid hb; clear hb)
  go_ret
  exact ⟨rfl, B2.out⟩
set_option maxRecDepth 4000 in
set_option maxHeartbeats 3200000 in
theorem planOfF_any (g : Gv) (b : Int) (br : Nat) (su : Nat → Nat → Bool) (w : World) (hr : RdG w w.heap.size g) (hf : Gfit g) (hE : gE g.G = 0)
    (HS : ∀ w', Below w.heap.size w w' → ∀ f t : Nat, f < g.own.length → t < g.own.length → Calls Try.prog 73 #[.int .i64 f, .int .i64 t, .pointer (some ⟨br, 0, none⟩)] w' fun e w'' => e = .returned (.bool (su f t)) ∧ Below w'.heap.size w' w'') :
    Calls Try.prog 71 #[g.v, .int .i64 b, .func (.func 73) #[] #[.pointer (some ⟨br, 0, none⟩)]] w (MadeI w (plL g.G b su)) := by
  obtain ⟨W, hl⟩ := laid_of w g hr hf hE
  have LA := Lib.hid hl
  have hn16 := hl.le
  have HSu := Lib.hid HS
  have HNot := Lib.hid (fun p d hd h => plF_not (G := g.G) (b := b) (su := su) (p := p) (d := d) hd h)
  have HIdx := Lib.hid (fun p l hd hl => plF_idx (G := g.G) (b := b) (su := su) (p := p) (l := l) hd hl)
  have HLn := Lib.hid (show (plL g.G b su).length = g.own.length by simp [plL, Gv.G])
  have HRow := Lib.hid (show plL g.G b su = (List.range g.own.length).map (plF g.G b su) from rfl)
  clear hr hf hE hl HS
  unfold Gv.v
  have hGo : g.G.own = g.own := rfl
  rw [hGo] at HNot HIdx
  generalize g.G = G at *
  obtain ⟨A0, c0, own, A1, c1, rs⟩ := g
  simp only at LA HSu HNot HIdx HLn HRow hn16 ⊢
  clear hGo
  have hW := LA.out.hW
  have p0 := LA.out.p0
  have p1 := LA.out.p1
  obtain ⟨i0, hi, hz0, hz1, hz2⟩ := info_parts Try.eInt.hi
  obtain ⟨W1, hW1, k1, s1, b1⟩ := one_blk W #[.func (.func 73) #[] #[.pointer (some ⟨br, 0, none⟩)]] 70
  have q0 := cell_keep p0 b1 LA.out.hz
  have q1 := cell_keep p1 b1 LA.out.hz
  go_enter Try.func71, Try.ntmps71
  go_wp2_with ((at_make; refine wpList_make_full _ rfl (.tmp 12) (.tmp 12) 22 rfl W1.heap.size 3 i0 (.int .i64 0) 1 Try.underlying22 hi hz0 hz1 .i64 .i64 _ _ own.length rfl rfl rfl rfl (by rw [hz2]; omega) (by simp only [maxLen]; omega) (Nat.le_refl _) ?_; intro w3 hown hgr; have MD := Lib.hid (made_ints hown hgr); clear hown hgr))
  have KS := Lib.hid k1
  have BW1 := Lib.hid (LA.out.b.trans (b1.mono LA.out.b.size))
  have RG1 := Lib.hid (LA.out.rg.up b1)
  have O1 := Lib.hid (LA.out.r0.up b1)
  have M1 := Lib.hid (LA.out.r1.up b1)
  have hz1' : w.heap.size < W1.heap.size := Nat.lt_of_lt_of_le LA.out.hz b1.size
  have ZZ := Lib.hid hz1'
  have ZS := Lib.hid s1
  clear hW hW1 hi hz0 hz1 hz2 k1 b1 p0 p1 hz1'
  clear s1
  obtain ⟨M, hM⟩ : ∃ M, W1.heap.size = M := ⟨_, rfl⟩
  have MB := Lib.hid MD.out.1
  have MR := Lib.hid (show w3.heap[M]? = some (.cells (rowI (fun p => if p < 0 then plF G b su p else 0) own.length) 3 (0, 0)) by
    rw [← hM, MD.out.2]; congr 2)
  rw [hM] at MB
  rw [hM]
  clear MD
  have Q0 := Lib.hid q0
  have Q1 := Lib.hid q1
  clear q0 q1
  go_loopw [16] (fun i wr => ∃ k : Nat, k ≤ own.length ∧ i = .int .i64 k ∧ wr.heap[M]? = some (.cells (rowI (fun p => if p < k then plF G b su p else 0) own.length) 3 (0, 0)) ∧ Below M W1 wr) (fun i _ => own.length - (intOf i).toNat)
  case atStart => exact ⟨0, by omega, rfl, MR.out, MB.out⟩
  case round =>
    obtain ⟨k, hk, rfl, hMr, hb⟩ := hrel
    have HM := Lib.hid hMr
    have hb' : Below W1.heap.size W1 wr := by rw [hM]; exact hb
    have BW := Lib.hid hb'
    have hMlt : M < wr.heap.size := lt_of_block hMr
    clear hMr hb hb'
    by_cases hlt : k < own.length
    · obtain ⟨wa, hwa, ka, sa, ba⟩ := one_blk wr #[.int .i64 (k : Int)] 3
      have HMa := (ba.block _ hMlt).trans HM.out
      obtain ⟨wb, hwb⟩ : ∃ wb, wa.setCell ⟨M, k, none⟩ (.int .i64 (-1)) = wb := ⟨_, rfl⟩
      have HMb := Lib.hid (show wb.heap[M]? = some (.cells (rowI (fun j => if j = k then -1 else if j < k then plF G b su j else 0) own.length) 3 (0, 0)) by rw [← hwb]; exact pl_store HMa k (-1))
      have c2 : wa.cell? ⟨M, k, none⟩ = some (.int .i64 (if k < k then plF G b su k else 0)) := by rw [blk_cell HMa]; exact rowV_at hlt
      generalize (if k < k then plF G b su k else 0) = old at c2
      have hfree := blk_free HMa k
      have hbel : Below M wa wb := by rw [← hwb]; exact ((Only.refl M wa).set k _).below (Nat.le_refl M)
      have BB := Lib.hid (show Below W1.heap.size W1 wb from BW.out.trans ((ba.mono (by rw [hM]; exact Nat.le_of_lt hMlt)).trans (by rw [hM]; exact hbel)))
      have hsz : wb.heap.size = wa.heap.size := by rw [← hwb]; simp [World.setCell]
      have hfr : wb.heap[wr.heap.size]? = some (.cells #[.int .i64 (k : Int)] 3 (0, 0)) := by rw [← hwb]; exact (heap_set_far (by omega) _ _).trans ka
      have ca : wa.cell? ⟨wr.heap.size, 0, none⟩ = some (.int .i64 (k : Int)) := by rw [blk_cell ka]; rfl
      have cb : wb.cell? ⟨wr.heap.size, 0, none⟩ = some (.int .i64 (k : Int)) := by rw [blk_cell hfr]; rfl
      have t0 := cell_keep Q0.out BB.out ZZ.out
      have t1 := cell_keep Q1.out BB.out ZZ.out
      have ts : wb.cell? ⟨W.heap.size, 0, none⟩ = some (.func (.func 73) #[] #[.pointer (some ⟨br, 0, none⟩)]) := by rw [blk_cell ((BB.out.block _ ZS.out).trans KS.out)]; rfl
      have OB := Lib.hid (O1.out.up BB.out)
      have MBB := Lib.hid (M1.out.up BB.out)
      obtain ⟨bo, oo, d, rfl, hd, hc⟩ := OB.out.int k hlt
      obtain ⟨b2, o', A', c', l, rfl, hx, hc', hl⟩ := MBB.out.row k (by have := LA.out.len; omega)
      have hkr : (k : Int) < (rs.length : Int) := by have := LA.out.len; omega
      have hkr2 : k < rs.length := by have := LA.out.len; omega
      have b0 : (0 : Int) ≤ (k : Int) := by omega
      have b1 : (k : Int) < (own.length : Int) := by omega
      have hset := LA.out.set k _ _ _ hx.out
      have hll := LA.out.fit _ (List.mem_of_getElem? hx.out)
      simp only at hll
      have hrow := LA.out.row k _ _ _ hx.out
      have ST := Lib.hid (show wb.heap.size = wa.heap.size ∧ wr.heap.size < wa.heap.size ∧ M < wr.heap.size from ⟨hsz, sa, hMlt⟩)
      by_cases hdb : d = b
      · subst hdb
        have e1 : (d != d) = false := by simp
        have HCall := Lib.hid (show ∀ w', Below wb.heap.size wb w' → ∀ x ∈ l, Calls Try.prog 85 #[.int .i64 x, .pointer (some ⟨W.heap.size, 0, none⟩), .pointer (some ⟨wr.heap.size, 0, none⟩)] w' fun e w'' => e = .returned (.bool (su k x.toNat)) ∧ Below w'.heap.size w' w'' from fun w' hw' x hx2 => by
          have h1 := set_mem hset hx2
          obtain ⟨t, rfl⟩ := Int.eq_ofNat_of_zero_le h1.1
          rw [Int.toNat_natCast]
          have hWb : W.heap.size < wb.heap.size := by have := BB.out.size; have := ZS.out; omega
          have h2 := BW1.out.trans (BB.out.mono BW1.out.size)
          have h3 := h2.trans (hw'.mono h2.size)
          exact plan1F_any [] k t br W.heap.size wr.heap.size (su k t) w' (cell_keep ts hw' hWb) (cell_keep cb hw' (by omega)) (HSu.out w' h3 k t hlt (by omega)))
        have HIF := Lib.hid (IndexFunc_any A' c' l W.heap.size wr.heap.size (fun x => su k x.toNat) wb hl.out hll HCall.out)
        have HR2 := HIdx.out k l hd.out hrow
        have HL2 := Lib.hid hl.out
        clear hset hrow hfr ka ba HMa hbel hsz sa hMlt HCall
        rcases HR2 with ⟨hi1, hp1⟩ | ⟨i, x, hi1, hx1, hp1⟩
        · rw [hi1] at HIF
          have HP := Lib.hid hp1
          clear hi1 hp1
          go_wp2_with fail
          refine HIF.out.mono ?_
          rintro e w5 ⟨rfl, hb⟩
          have M5 := Lib.hid ((hb.block _ (lt_of_block HMb.out)).trans HMb.out)
          have B5 := Lib.hid (BB.out.trans (hb.mono (by have := ST.out; omega)))
          clear hb
          go_wp2_with fail
          go_roundw
          case rel =>
            refine ⟨k + 1, by omega, by go_num, ?_, by rw [← hM]; exact B5.out⟩
            rw [M5.out, show rowI (fun j => if j = k then (-1 : Int) else if j < k then plF G d su j else 0) own.length = rowI (fun p => if p < k + 1 then plF G d su p else 0) own.length from rowI_congr fun j _ => by
              by_cases h1 : j = k
              · subst h1; rw [if_pos rfl, if_pos (by omega), HP.out]
              · rw [if_neg h1]
                by_cases h2 : j < k
                · rw [if_pos h2, if_pos (by omega)]
                · rw [if_neg h2, if_neg (by omega)]]
          case measure => simp [intOf]; omega
        · rw [hi1] at HIF
          have HP := Lib.hid hp1
          have HX1 := Lib.hid hx1
          have hil : i < l.length := (List.getElem?_eq_some_iff.1 hx1).1
          have f0 : decide ((0 : Int) ≤ (i : Int)) = true := by rw [decide_eq_true_eq]; omega
          have f1 : (0 : Int) ≤ (i : Int) := by omega
          have f2 : (i : Int) < (l.length : Int) := by omega
          clear hi1 hp1 hx1
          go_wp2_with fail
          refine HIF.out.mono ?_
          rintro e w5 ⟨rfl, hb⟩
          have M5 := Lib.hid ((hb.block _ (lt_of_block HMb.out)).trans HMb.out)
          have B5 := Lib.hid (BB.out.trans (hb.mono (by have := ST.out; omega)))
          have u0 := cell_keep t0 hb (by have := ST.out; have := BB.out.size; have := ZZ.out; omega)
          have u1 := cell_keep t1 hb (by have := ST.out; have := BB.out.size; have := ZZ.out; omega)
          have ub := cell_keep cb hb (by have := ST.out; omega)
          have hb2lt : b2 < wb.heap.size := World.block_lt_of_cell? wb _ hc'
          have uc := cell_keep hc' hb hb2lt
          obtain ⟨b3, o3, x2, hA3, hx3, hc3⟩ := (HL2.out.up hb).int i hil
          obtain rfl := Option.some.inj (HX1.out.symm.trans hx3.out)
          subst hA3
          have cM : w5.cell? ⟨M, k, none⟩ = some (.int .i64 (if k = k then (-1 : Int) else if k < k then plF G d su k else 0)) := by rw [blk_cell M5.out]; exact rowV_at hlt
          generalize (if k = k then (-1 : Int) else if k < k then plF G d su k else 0) = old2 at cM
          have hfree2 := blk_free M5.out k
          have M6 := Lib.hid (pl_store M5.out k x)
          have B6 := Lib.hid (show Below W1.heap.size W1 (w5.setCell ⟨M, k, none⟩ (.int .i64 x)) from B5.out.trans (by rw [hM]; exact ((Only.refl M w5).set k _).below (Nat.le_refl M)))
          clear hb
          go_wp2_with fail
          go_region
          all_goals (
            go_wp2_with fail
            go_roundw
            case rel =>
              refine ⟨k + 1, by omega, by go_num, ?_, by have h := B6.out.drew; rw [hM] at h; exact h⟩
              show (w5.setCell ⟨M, k, none⟩ (.int .i64 x)).heap[M]? = _
              rw [M6.out, show rowI (fun j => if j = k then (x : Int) else if j = k then (-1 : Int) else if j < k then plF G d su j else 0) own.length = rowI (fun p => if p < k + 1 then plF G d su p else 0) own.length from rowI_congr fun j _ => by
                by_cases h1 : j = k
                · subst h1; rw [if_pos rfl, if_pos (by omega), HP.out]
                · rw [if_neg h1, if_neg h1]
                  by_cases h2 : j < k
                  · rw [if_pos h2, if_pos (by omega)]
                  · rw [if_neg h2, if_neg (by omega)]]
            case measure => simp [intOf]; omega)
      · have e1 : (d != b) = true := by simpa using hdb
        have HP := Lib.hid (HNot.out k d hd.out hdb)
        clear hset hrow hfr ka ba HMa hbel hsz sa hMlt hdb
        go_wp2_with fail
        go_roundw
        case rel =>
          refine ⟨k + 1, by omega, by go_num, ?_, by rw [← hM]; exact BB.out⟩
          rw [HMb.out, show rowI (fun j => if j = k then (-1 : Int) else if j < k then plF G b su j else 0) own.length = rowI (fun p => if p < k + 1 then plF G b su p else 0) own.length from rowI_congr fun j _ => by
            by_cases h1 : j = k
            · subst h1; rw [if_pos rfl, if_pos (by omega), HP.out]
            · rw [if_neg h1]
              by_cases h2 : j < k
              · rw [if_pos h2, if_pos (by omega)]
              · rw [if_neg h2, if_neg (by omega)]]
        case measure => simp [intOf]; omega
    · have hks : k = own.length := by omega
      subst hks
      have HE := Lib.hid (show rowI (fun p => if p < own.length then plF G b su p else 0) own.length = (ints (plL G b su)).toArray by rw [HRow.out, ← rowI_ints]; exact rowI_congr fun j hj => by rw [if_pos hj])
      go_wp2_with fail
      go_ret
      refine ⟨_, own.length, by rw [HLn.out]; rfl, by rw [HLn.out]; exact Nat.le_refl _, fresh_at w (by have := BW1.out.size; omega), Rd.of_block (by rw [← HE.out]; exact HM.out), ?_⟩
      exact BW1.out.trans (BW.out.mono BW1.out.size)
end Go.Proofs.Ytibcjkpfpiamkaa

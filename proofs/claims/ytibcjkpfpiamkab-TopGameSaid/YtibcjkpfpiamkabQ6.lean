/-
  Texts merged into one (Lu22, LwAgain, LwKeeps, Lu23, Lu24, LwPlans, Lu25, Lu26): contracts of the functions of package lure, what is reckoned of games. Conditions: as each says.
-/
import Derived.Test.YtibcjkpfpiamkabQ5
import Derived.Test.YtibcjkpfpiamkabQ4
namespace Go.Proofs.Ytibcjkpfpiamkab
open Go.RowKit
set_option linter.unusedVariables false

end Go.Proofs.Ytibcjkpfpiamkab
namespace Go.Proofs.Ytibcjkpfpiamkab
open Go.RowKit
set_option linter.unusedVariables false

theorem aga_le (G : Gm) (L : List Int) : (agaL G L).length ≤ 16 := by
  unfold agaL
  split
  · exact lst_le _
  · simp
theorem lst_in {x y : Nat} (h : sub x y) {k : Nat} {d : Int} (hd : (lst x)[k]? = some d) : decide (d ∈ lst y) = true := by
  rw [decide_eq_true_eq]
  obtain ⟨n, hn, h16, hb⟩ := listK_mem (List.mem_of_getElem? hd)
  exact List.mem_map.2 ⟨n, by rw [List.mem_filter]; exact ⟨List.mem_range.2 h16, h n hb⟩, hn.symm⟩
theorem aga_win {G : Gm} {L : List Int} {k : Nat} {d : Int} (hd : (agaL G L)[k]? = some d) : decide (d ∈ winL G L) = true := by
  unfold agaL at hd
  unfold winL
  by_cases h : askE G L = 0
  · rw [if_pos h] at hd ⊢
    obtain ⟨hG, hs⟩ := askE_zero h
    exact lst_in (ag_won (gat_lt hs (by have := (gE_zero hG).le; omega))) hd
  · rw [if_neg h] at hd; simp at hd
end Go.Proofs.Ytibcjkpfpiamkab
namespace Go.Proofs.Ytibcjkpfpiamkab
open Go.RowKit
set_option linter.unusedVariables false

theorem kep_le (G : Gm) (L : List Int) : (kepL G L).length ≤ 16 := by
  unfold kepL
  split
  · exact lst_le _
  · simp
theorem kep_twice {G : Gm} {L : List Int} (h : askE G L = 0) : kepL G (kepL G L) = kepL G L ∧ askE G (kepL G L) = 0 := by
  obtain ⟨hG, hs⟩ := askE_zero h
  have h16 := (gE_zero hG).le
  have hg : gatN L < 2 ^ G.own.length := gat_lt hs (by omega)
  have hk := kp_lt (G := G) hg
  have e1 : kepL G L = lst (kpN G (gatN L)) := by unfold kepL; rw [if_pos h]
  have hset : setL G.own.length (lst (kpN G (gatN L))) = true := by
    unfold lst
    rw [listK_high (fun j hj => high_bits hk hj) h16]
    exact setL_listK _ _
  have h2 : askE G (kepL G L) = 0 := by
    rw [e1]
    unfold askE
    rw [if_pos hG, if_pos hset]
  refine ⟨?_, h2⟩
  have e2 : kepL G (kepL G L) = lst (kpN G (gatN (kepL G L))) := by
    show (if askE G (kepL G L) = 0 then _ else _) = _
    rw [if_pos h2]
  rw [e2, e1, gat_lst hk h16, kp_again hg]
end Go.Proofs.Ytibcjkpfpiamkab
namespace Go.Proofs.Ytibcjkpfpiamkab
open Go.RowKit
set_option linter.unusedVariables false

def suP (R : List Int) (f t : Nat) : Bool := !decide (R.getD t 0 = -1) && decide (R.getD t 0 < R.getD f 0)
def suF (R : List Int) (f t : Nat) : Bool := decide (R.getD f 0 = -1) && decide (R.getD t 0 = -1)
set_option maxRecDepth 4000 in
set_option maxHeartbeats 800000 in
theorem suitP_any (R : List Int) (f t br : Nat) (A : Option Addr) (c : Nat) (w : World) (hc : w.cell? ⟨br, 0, none⟩ = some (.slice A R.length c)) (hr : Rd w w.heap.size A (ints R)) (hf : f < R.length) (ht : t < R.length) :
    Calls Try.prog 32 #[.int .i64 f, .int .i64 t, .pointer (some ⟨br, 0, none⟩)] w fun e w' => e = .returned (.bool (suP R f t)) ∧ Below w.heap.size w w' := by
  obtain ⟨b, o, x, rfl, hx, c0⟩ := hr.int t ht
  obtain ⟨b', o', y, hb, hy, c1⟩ := hr.int f hf
  cases hb
  have HS := Lib.hid (show suP R f t = (!decide (x = -1) && decide (x < y)) by unfold suP; rw [getD_at hx.out, getD_at hy.out])
  have h0 : (0 : Int) ≤ (t : Int) := by omega
  have h1 : (t : Int) < (R.length : Int) := by omega
  have h2 : (0 : Int) ≤ (f : Int) := by omega
  have h3 : (f : Int) < (R.length : Int) := by omega
  by_cases hq : x = -1
  · have e1 : (x != -1) = false := by simpa using hq
    rw [show (!decide (x = -1) && decide (x < y)) = false by rw [decide_eq_true hq]; rfl] at HS
    clear hr hq
    go_enter Try.func32, Try.ntmps32
    go_wp2_with fail
    go_quiet (fail)
    go_wp2_with fail
    go_ret
    exact ⟨by rw [HS.out]; rfl, bdN (Below.refl _ _) _⟩
  · have e1 : (x != -1) = true := by simpa using hq
    rw [show (!decide (x = -1) && decide (x < y)) = decide (x < y) by rw [decide_eq_false hq]; rfl] at HS
    obtain ⟨q, hq2⟩ : ∃ q, decide (x < y) = q := ⟨_, rfl⟩
    rw [hq2] at HS
    clear hr hq
    cases q
    · go_enter Try.func32, Try.ntmps32
      go_wp2_with fail
      go_quiet (fail)
      go_wp2_with fail
      go_ret
      exact ⟨by rw [HS.out]; rfl, bdN (Below.refl _ _) _⟩
    · go_enter Try.func32, Try.ntmps32
      go_wp2_with fail
      go_quiet (fail)
      go_wp2_with fail
      go_ret
      exact ⟨by rw [HS.out]; rfl, bdN (Below.refl _ _) _⟩
set_option maxRecDepth 4000 in
set_option maxHeartbeats 800000 in
theorem suitF_any (R : List Int) (f t br : Nat) (A : Option Addr) (c : Nat) (w : World) (hc : w.cell? ⟨br, 0, none⟩ = some (.slice A R.length c)) (hr : Rd w w.heap.size A (ints R)) (hf : f < R.length) (ht : t < R.length) :
    Calls Try.prog 33 #[.int .i64 f, .int .i64 t, .pointer (some ⟨br, 0, none⟩)] w fun e w' => e = .returned (.bool (suF R f t)) ∧ Below w.heap.size w w' := by
  obtain ⟨b, o, x, rfl, hx, c0⟩ := hr.int t ht
  obtain ⟨b', o', y, hb, hy, c1⟩ := hr.int f hf
  cases hb
  have HS := Lib.hid (show suF R f t = (decide (y = -1) && decide (x = -1)) by unfold suF; rw [getD_at hx.out, getD_at hy.out])
  have h0 : (0 : Int) ≤ (t : Int) := by omega
  have h1 : (t : Int) < (R.length : Int) := by omega
  have h2 : (0 : Int) ≤ (f : Int) := by omega
  have h3 : (f : Int) < (R.length : Int) := by omega
  by_cases hq : y = -1
  · have e1 : (y == -1) = true := by simpa using hq
    rw [show (decide (y = -1) && decide (x = -1)) = (x == -1) by rw [decide_eq_true hq, Bool.true_and]; rfl] at HS
    clear hr hq
    generalize hqq : (x == -1) = q at HS
    cases q
    · go_enter Try.func33, Try.ntmps33
      go_wp2_with fail
      go_ret
      exact ⟨by rw [HS.out]; rfl, Below.refl _ _⟩
    · go_enter Try.func33, Try.ntmps33
      go_wp2_with fail
      go_ret
      exact ⟨by rw [HS.out]; rfl, Below.refl _ _⟩
  · have e1 : (y == -1) = false := by simpa using hq
    rw [show (decide (y = -1) && decide (x = -1)) = false by rw [decide_eq_false hq]; rfl] at HS
    clear hr hq
    go_enter Try.func33, Try.ntmps33
    go_wp2_with fail
    go_ret
    exact ⟨by rw [HS.out]; rfl, Below.refl _ _⟩
def idxF (p : Int → Bool) (L : List Int) : Int := match L.findIdx? p with
  | some i => (i : Int)
  | none => -1
theorem idx_hit {p : Int → Bool} {L : List Int} {k : Nat} {d : Int} (hd : L[k]? = some d) (h : p d = true) (ha : ∀ (j : Nat) e, j < k → L[j]? = some e → p e = false) : idxF p L = (k : Int) := by
  obtain ⟨hk, he⟩ := List.getElem?_eq_some_iff.1 hd
  have : L.findIdx? p = some k := by
    rw [List.findIdx?_eq_some_iff_getElem]
    refine ⟨hk, by rw [he]; exact h, fun j hj => ?_⟩
    have := ha j _ hj (List.getElem?_eq_getElem (by omega))
    rw [this]; decide
  unfold idxF
  rw [this]
theorem idx_none {p : Int → Bool} {L : List Int} (ha : ∀ (j : Nat) e, j < L.length → L[j]? = some e → p e = false) : idxF p L = -1 := by
  have : L.findIdx? p = none := by
    rw [List.findIdx?_eq_none_iff]
    intro x hx
    obtain ⟨j, hj, he⟩ := List.getElem_of_mem hx
    exact ha j x hj (by rw [← he]; exact List.getElem?_eq_getElem hj)
  unfold idxF
  rw [this]
theorem none_next {p : Int → Bool} {R : List Int} {k : Nat} {d : Int} (hk : R[k]? = some d) (h : p d = false) (ha : ∀ (j : Nat) e, j < k → R[j]? = some e → p e = false) : ∀ (j : Nat) e, j < k + 1 → R[j]? = some e → p e = false := fun j e hj he => by
  by_cases hjk : j = k
  · subst hjk
    obtain rfl := Option.some.inj (hk.symm.trans he)
    exact h
  · exact ha j e (by omega) he
set_option maxRecDepth 4000 in
set_option maxHeartbeats 800000 in
theorem IndexFunc_any (A : Option Addr) (c : Nat) (L : List Int) (bs bf : Nat) (p : Int → Bool) (w : World) (hr : Rd w w.heap.size A (ints L)) (hl : L.length ≤ 9223372036854775807)
    (HC : ∀ w', Below w.heap.size w w' → ∀ d ∈ L, Calls Try.prog 45 #[.int .i64 d, .pointer (some ⟨bs, 0, none⟩), .pointer (some ⟨bf, 0, none⟩)] w' fun e w'' => e = .returned (.bool (p d)) ∧ Below w'.heap.size w' w'') :
    Calls Try.prog 44 #[.slice A L.length c, .func (.func 45) #[] #[.pointer (some ⟨bs, 0, none⟩), .pointer (some ⟨bf, 0, none⟩)]] w fun e w' => e = .returned (.int .i64 (idxF p L)) ∧ Below w.heap.size w w' := by
  have HR := Lib.hid hr
  have HCC := Lib.hid HC
  have HH := Lib.hid (fun k d hd h ha => idx_hit (p := p) (L := L) (k := k) (d := d) hd h ha)
  have HN := Lib.hid (fun ha => idx_none (p := p) (L := L) ha)
  clear hr HC
  go_enter Try.func44, Try.ntmps44
  go_wp2_with fail
  go_loopw [8] (fun i wr => ∃ k : Nat, k ≤ L.length ∧ i = .int .i64 k ∧ (∀ (j : Nat) e, j < k → L[j]? = some e → p e = false) ∧ Below w.heap.size w wr) (fun i _ => L.length - (intOf i).toNat)
  case atStart => exact ⟨0, by omega, rfl, fun j e hj => by omega, Below.refl _ _⟩
  case round =>
    obtain ⟨k, hk, rfl, hall, hb⟩ := hrel
    have HA := Lib.hid hall
    have BW := Lib.hid hb
    clear hall hb
    by_cases hlt : k < L.length
    · obtain ⟨b, o, d, rfl, hd, hc⟩ := (HR.out.below BW.out (Nat.le_refl _)).int k hlt
      have HQ := Lib.hid (HCC.out wr BW.out d (List.mem_of_getElem? hd.out))
      cases hp : p d
      · have HX := Lib.hid (none_next hd.out hp HA.out)
        rw [hp] at HQ
        clear hp
        go_wp2_with (go_at_call 45; refine HQ.out.mono ?_; rintro e w2 ⟨rfl, hb⟩; have B2 := Lib.hid (BW.out.trans (hb.mono BW.out.size)); clear hb)
        go_roundw
        case rel => exact ⟨k + 1, by omega, by go_num, HX.out, B2.out⟩
        case measure => simp [intOf]; omega
      · have HX := Lib.hid (HH.out k d hd.out hp HA.out)
        rw [hp] at HQ
        clear hp
        go_wp2_with (go_at_call 45; refine HQ.out.mono ?_; rintro e w2 ⟨rfl, hb⟩; have B2 := Lib.hid (BW.out.trans (hb.mono BW.out.size)); clear hb)
        go_ret
        exact ⟨by rw [HX.out]; rfl, B2.out⟩
    · have hks : k = L.length := by omega
      subst hks
      have HX := Lib.hid (HN.out HA.out)
      go_wp2_with fail
      go_ret
      exact ⟨by rw [HX.out]; rfl, BW.out⟩
/-- The plan at a place: the first move that suits. -/
def plF (G : Gm) (b : Int) (su : Nat → Nat → Bool) (p : Nat) : Int := if G.who p = b then ((G.row p).find? fun d => su p d.toNat).getD (-1) else -1
theorem plF_not {G : Gm} {b : Int} {su : Nat → Nat → Bool} {p : Nat} {d : Int} (hd : G.own[p]? = some d) (h : ¬ d = b) : plF G b su p = -1 := by
  unfold plF
  rw [who_at hd, if_neg h]
theorem plF_idx {G : Gm} {b : Int} {su : Nat → Nat → Bool} {p : Nat} {l : List Int} (hd : G.own[p]? = some b) (hl : G.row p = l) :
    (idxF (fun d => su p d.toNat) l = -1 ∧ plF G b su p = -1) ∨ ∃ (i : Nat) (d : Int), idxF (fun d => su p d.toNat) l = (i : Int) ∧ l[i]? = some d ∧ plF G b su p = d := by
  unfold plF idxF
  rw [who_at hd, if_pos rfl, hl]
  cases hx : l.findIdx? (fun d => su p d.toNat) with
  | none =>
    left
    refine ⟨rfl, ?_⟩
    rw [List.findIdx?_eq_none_iff] at hx
    rw [List.find?_eq_none.2 fun x hx2 => by rw [hx x hx2]; decide]
    rfl
  | some i =>
    right
    rw [List.findIdx?_eq_some_iff_getElem] at hx
    obtain ⟨hi, h1, h2⟩ := hx
    refine ⟨i, l[i], rfl, List.getElem?_eq_getElem hi, ?_⟩
    have : l.find? (fun d => su p d.toNat) = some l[i] := by
      rw [List.find?_eq_some_iff_getElem]
      exact ⟨h1, i, hi, rfl, fun j hj => by have := h2 j hj; simpa using this⟩
    rw [this]
    rfl
def plL (G : Gm) (b : Int) (su : Nat → Nat → Bool) : List Int := (List.range G.own.length).map (plF G b su)
theorem pl_store {w : World} {M n : Nat} {f : Nat → Int} (h : w.heap[M]? = some (.cells (rowI f n) 3 (0, 0))) (k : Nat) (v : Int) : (w.setCell ⟨M, k, none⟩ (.int .i64 v)).heap[M]? = some (.cells (rowI (fun j => if j = k then v else f j) n) 3 (0, 0)) := by rw [blk_set h, rowI_set]
set_option maxRecDepth 4000 in
set_option maxHeartbeats 800000 in
theorem plan1P_any (R : List Int) (f t br bs bf : Nat) (q : Bool) (w : World) (hs : w.cell? ⟨bs, 0, none⟩ = some (.func (.func 32) #[] #[.pointer (some ⟨br, 0, none⟩)])) (hf : w.cell? ⟨bf, 0, none⟩ = some (.int .i64 f))
    (HS : Calls Try.prog 32 #[.int .i64 f, .int .i64 t, .pointer (some ⟨br, 0, none⟩)] w fun e w' => e = .returned (.bool q) ∧ Below w.heap.size w w') :
    Calls Try.prog 45 #[.int .i64 t, .pointer (some ⟨bs, 0, none⟩), .pointer (some ⟨bf, 0, none⟩)] w fun e w' => e = .returned (.bool q) ∧ Below w.heap.size w w' := by
  have H := Lib.hid HS
  clear HS
  go_enter Try.func45, Try.ntmps45
  go_wp2_with (go_at_call 32; refine H.out.mono ?_; rintro e w2 ⟨rfl, hb⟩; have B2 := Lib.hid hb; clear hb)
  go_ret
  exact ⟨rfl, B2.out⟩
set_option maxRecDepth 4000 in
set_option maxHeartbeats 3200000 in
theorem planOfP_any (g : Gv) (b : Int) (br : Nat) (su : Nat → Nat → Bool) (w : World) (hr : RdG w w.heap.size g) (hf : Gfit g) (hE : gE g.G = 0)
    (HS : ∀ w', Below w.heap.size w w' → ∀ f t : Nat, f < g.own.length → t < g.own.length → Calls Try.prog 32 #[.int .i64 f, .int .i64 t, .pointer (some ⟨br, 0, none⟩)] w' fun e w'' => e = .returned (.bool (su f t)) ∧ Below w'.heap.size w' w'') :
    Calls Try.prog 31 #[g.v, .int .i64 b, .func (.func 32) #[] #[.pointer (some ⟨br, 0, none⟩)]] w (MadeI w (plL g.G b su)) := by
  obtain ⟨W, hl⟩ := laid_of w g hr hf hE
  have LA := Lib.hid hl
  have hn16 := hl.le
  have HSu := Lib.hid HS
  have HNot := Lib.hid (fun p d hd h => plF_not (G := g.G) (b := b) (su := su) (p := p) (d := d) hd h)
  have HIdx := Lib.hid (fun p l hd hl => plF_idx (G := g.G) (b := b) (su := su) (p := p) (l := l) hd hl)
  have HLn := Lib.hid (show (plL g.G b su).length = g.own.length by simp [plL, Gv.G])
  have HRow := Lib.hid (show plL g.G b su = (List.range g.own.length).map (plF g.G b su) from rfl)
  clear hr hf hE hl HS
  unfold Gv.v
  have hGo : g.G.own = g.own := rfl
  rw [hGo] at HNot HIdx
  generalize g.G = G at *
  obtain ⟨A0, c0, own, A1, c1, rs⟩ := g
  simp only at LA HSu HNot HIdx HLn HRow hn16 ⊢
  clear hGo
  have hW := LA.out.hW
  have p0 := LA.out.p0
  have p1 := LA.out.p1
  obtain ⟨i0, hi, hz0, hz1, hz2⟩ := info_parts Try.eInt.hi
  obtain ⟨W1, hW1, k1, s1, b1⟩ := one_blk W #[.func (.func 32) #[] #[.pointer (some ⟨br, 0, none⟩)]] 52
  have q0 := cell_keep p0 b1 LA.out.hz
  have q1 := cell_keep p1 b1 LA.out.hz
  go_enter Try.func31, Try.ntmps31
  go_wp2_with ((at_make; refine wpList_make_full _ rfl (.tmp 12) (.tmp 12) 22 rfl W1.heap.size 3 i0 (.int .i64 0) 1 Try.underlying22 hi hz0 hz1 .i64 .i64 _ _ own.length rfl rfl rfl rfl (by rw [hz2]; omega) (by simp only [maxLen]; omega) (Nat.le_refl _) ?_; intro w3 hown hgr; have MD := Lib.hid (made_ints hown hgr); clear hown hgr))
  have KS := Lib.hid k1
  have BW1 := Lib.hid (LA.out.b.trans (b1.mono LA.out.b.size))
  have RG1 := Lib.hid (LA.out.rg.up b1)
  have O1 := Lib.hid (LA.out.r0.up b1)
  have M1 := Lib.hid (LA.out.r1.up b1)
  have hz1' : w.heap.size < W1.heap.size := Nat.lt_of_lt_of_le LA.out.hz b1.size
  have ZZ := Lib.hid hz1'
  have ZS := Lib.hid s1
  clear hW hW1 hi hz0 hz1 hz2 k1 b1 p0 p1 hz1'
  clear s1
  obtain ⟨M, hM⟩ : ∃ M, W1.heap.size = M := ⟨_, rfl⟩
  have MB := Lib.hid MD.out.1
  have MR := Lib.hid (show w3.heap[M]? = some (.cells (rowI (fun p => if p < 0 then plF G b su p else 0) own.length) 3 (0, 0)) by
    rw [← hM, MD.out.2]; congr 2)
  rw [hM] at MB
  rw [hM]
  clear MD
  have Q0 := Lib.hid q0
  have Q1 := Lib.hid q1
  clear q0 q1
  go_loopw [16] (fun i wr => ∃ k : Nat, k ≤ own.length ∧ i = .int .i64 k ∧ wr.heap[M]? = some (.cells (rowI (fun p => if p < k then plF G b su p else 0) own.length) 3 (0, 0)) ∧ Below M W1 wr) (fun i _ => own.length - (intOf i).toNat)
  case atStart => exact ⟨0, by omega, rfl, MR.out, MB.out⟩
  case round =>
    obtain ⟨k, hk, rfl, hMr, hb⟩ := hrel
    have HM := Lib.hid hMr
    have hb' : Below W1.heap.size W1 wr := by rw [hM]; exact hb
    have BW := Lib.hid hb'
    have hMlt : M < wr.heap.size := lt_of_block hMr
    clear hMr hb hb'
    by_cases hlt : k < own.length
    · obtain ⟨wa, hwa, ka, sa, ba⟩ := one_blk wr #[.int .i64 (k : Int)] 3
      have HMa := (ba.block _ hMlt).trans HM.out
      obtain ⟨wb, hwb⟩ : ∃ wb, wa.setCell ⟨M, k, none⟩ (.int .i64 (-1)) = wb := ⟨_, rfl⟩
      have HMb := Lib.hid (show wb.heap[M]? = some (.cells (rowI (fun j => if j = k then -1 else if j < k then plF G b su j else 0) own.length) 3 (0, 0)) by rw [← hwb]; exact pl_store HMa k (-1))
      have c2 : wa.cell? ⟨M, k, none⟩ = some (.int .i64 (if k < k then plF G b su k else 0)) := by rw [blk_cell HMa]; exact rowV_at hlt
      generalize (if k < k then plF G b su k else 0) = old at c2
      have hfree := blk_free HMa k
      have hbel : Below M wa wb := by rw [← hwb]; exact ((Only.refl M wa).set k _).below (Nat.le_refl M)
      have BB := Lib.hid (show Below W1.heap.size W1 wb from BW.out.trans ((ba.mono (by rw [hM]; exact Nat.le_of_lt hMlt)).trans (by rw [hM]; exact hbel)))
      have hsz : wb.heap.size = wa.heap.size := by rw [← hwb]; simp [World.setCell]
      have hfr : wb.heap[wr.heap.size]? = some (.cells #[.int .i64 (k : Int)] 3 (0, 0)) := by rw [← hwb]; exact (heap_set_far (by omega) _ _).trans ka
      have ca : wa.cell? ⟨wr.heap.size, 0, none⟩ = some (.int .i64 (k : Int)) := by rw [blk_cell ka]; rfl
      have cb : wb.cell? ⟨wr.heap.size, 0, none⟩ = some (.int .i64 (k : Int)) := by rw [blk_cell hfr]; rfl
      have t0 := cell_keep Q0.out BB.out ZZ.out
      have t1 := cell_keep Q1.out BB.out ZZ.out
      have ts : wb.cell? ⟨W.heap.size, 0, none⟩ = some (.func (.func 32) #[] #[.pointer (some ⟨br, 0, none⟩)]) := by rw [blk_cell ((BB.out.block _ ZS.out).trans KS.out)]; rfl
      have OB := Lib.hid (O1.out.up BB.out)
      have MBB := Lib.hid (M1.out.up BB.out)
      obtain ⟨bo, oo, d, rfl, hd, hc⟩ := OB.out.int k hlt
      obtain ⟨b2, o', A', c', l, rfl, hx, hc', hl⟩ := MBB.out.row k (by have := LA.out.len; omega)
      have hkr : (k : Int) < (rs.length : Int) := by have := LA.out.len; omega
      have hkr2 : k < rs.length := by have := LA.out.len; omega
      have b0 : (0 : Int) ≤ (k : Int) := by omega
      have b1 : (k : Int) < (own.length : Int) := by omega
      have hset := LA.out.set k _ _ _ hx.out
      have hll := LA.out.fit _ (List.mem_of_getElem? hx.out)
      simp only at hll
      have hrow := LA.out.row k _ _ _ hx.out
      have ST := Lib.hid (show wb.heap.size = wa.heap.size ∧ wr.heap.size < wa.heap.size ∧ M < wr.heap.size from ⟨hsz, sa, hMlt⟩)
      by_cases hdb : d = b
      · subst hdb
        have e1 : (d != d) = false := by simp
        have HCall := Lib.hid (show ∀ w', Below wb.heap.size wb w' → ∀ x ∈ l, Calls Try.prog 45 #[.int .i64 x, .pointer (some ⟨W.heap.size, 0, none⟩), .pointer (some ⟨wr.heap.size, 0, none⟩)] w' fun e w'' => e = .returned (.bool (su k x.toNat)) ∧ Below w'.heap.size w' w'' from fun w' hw' x hx2 => by
          have h1 := set_mem hset hx2
          obtain ⟨t, rfl⟩ := Int.eq_ofNat_of_zero_le h1.1
          rw [Int.toNat_natCast]
          have hWb : W.heap.size < wb.heap.size := by have := BB.out.size; have := ZS.out; omega
          have h2 := BW1.out.trans (BB.out.mono BW1.out.size)
          have h3 := h2.trans (hw'.mono h2.size)
          exact plan1P_any [] k t br W.heap.size wr.heap.size (su k t) w' (cell_keep ts hw' hWb) (cell_keep cb hw' (by omega)) (HSu.out w' h3 k t hlt (by omega)))
        have HIF := Lib.hid (IndexFunc_any A' c' l W.heap.size wr.heap.size (fun x => su k x.toNat) wb hl.out hll HCall.out)
        have HR2 := HIdx.out k l hd.out hrow
        have HL2 := Lib.hid hl.out
        clear hset hrow hfr ka ba HMa hbel hsz sa hMlt HCall
        rcases HR2 with ⟨hi1, hp1⟩ | ⟨i, x, hi1, hx1, hp1⟩
        · rw [hi1] at HIF
          have HP := Lib.hid hp1
          clear hi1 hp1
          go_wp2_with fail
          refine HIF.out.mono ?_
          rintro e w5 ⟨rfl, hb⟩
          have M5 := Lib.hid ((hb.block _ (lt_of_block HMb.out)).trans HMb.out)
          have B5 := Lib.hid (BB.out.trans (hb.mono (by have := ST.out; omega)))
          clear hb
          go_wp2_with fail
          go_roundw
          case rel =>
            refine ⟨k + 1, by omega, by go_num, ?_, by rw [← hM]; exact B5.out⟩
            rw [M5.out, show rowI (fun j => if j = k then (-1 : Int) else if j < k then plF G d su j else 0) own.length = rowI (fun p => if p < k + 1 then plF G d su p else 0) own.length from rowI_congr fun j _ => by
              by_cases h1 : j = k
              · subst h1; rw [if_pos rfl, if_pos (by omega), HP.out]
              · rw [if_neg h1]
                by_cases h2 : j < k
                · rw [if_pos h2, if_pos (by omega)]
                · rw [if_neg h2, if_neg (by omega)]]
          case measure => simp [intOf]; omega
        · rw [hi1] at HIF
          have HP := Lib.hid hp1
          have HX1 := Lib.hid hx1
          have hil : i < l.length := (List.getElem?_eq_some_iff.1 hx1).1
          have f0 : decide ((0 : Int) ≤ (i : Int)) = true := by rw [decide_eq_true_eq]; omega
          have f1 : (0 : Int) ≤ (i : Int) := by omega
          have f2 : (i : Int) < (l.length : Int) := by omega
          clear hi1 hp1 hx1
          go_wp2_with fail
          refine HIF.out.mono ?_
          rintro e w5 ⟨rfl, hb⟩
          have M5 := Lib.hid ((hb.block _ (lt_of_block HMb.out)).trans HMb.out)
          have B5 := Lib.hid (BB.out.trans (hb.mono (by have := ST.out; omega)))
          have u0 := cell_keep t0 hb (by have := ST.out; have := BB.out.size; have := ZZ.out; omega)
          have u1 := cell_keep t1 hb (by have := ST.out; have := BB.out.size; have := ZZ.out; omega)
          have ub := cell_keep cb hb (by have := ST.out; omega)
          have hb2lt : b2 < wb.heap.size := World.block_lt_of_cell? wb _ hc'
          have uc := cell_keep hc' hb hb2lt
          obtain ⟨b3, o3, x2, hA3, hx3, hc3⟩ := (HL2.out.up hb).int i hil
          obtain rfl := Option.some.inj (HX1.out.symm.trans hx3.out)
          subst hA3
          have cM : w5.cell? ⟨M, k, none⟩ = some (.int .i64 (if k = k then (-1 : Int) else if k < k then plF G d su k else 0)) := by rw [blk_cell M5.out]; exact rowV_at hlt
          generalize (if k = k then (-1 : Int) else if k < k then plF G d su k else 0) = old2 at cM
          have hfree2 := blk_free M5.out k
          have M6 := Lib.hid (pl_store M5.out k x)
          have B6 := Lib.hid (show Below W1.heap.size W1 (w5.setCell ⟨M, k, none⟩ (.int .i64 x)) from B5.out.trans (by rw [hM]; exact ((Only.refl M w5).set k _).below (Nat.le_refl M)))
          clear hb
          go_wp2_with fail
          go_region
          all_goals (
            go_wp2_with fail
            go_roundw
            case rel =>
              refine ⟨k + 1, by omega, by go_num, ?_, by have h := B6.out.drew; rw [hM] at h; exact h⟩
              show (w5.setCell ⟨M, k, none⟩ (.int .i64 x)).heap[M]? = _
              rw [M6.out, show rowI (fun j => if j = k then (x : Int) else if j = k then (-1 : Int) else if j < k then plF G d su j else 0) own.length = rowI (fun p => if p < k + 1 then plF G d su p else 0) own.length from rowI_congr fun j _ => by
                by_cases h1 : j = k
                · subst h1; rw [if_pos rfl, if_pos (by omega), HP.out]
                · rw [if_neg h1, if_neg h1]
                  by_cases h2 : j < k
                  · rw [if_pos h2, if_pos (by omega)]
                  · rw [if_neg h2, if_neg (by omega)]]
            case measure => simp [intOf]; omega)
      · have e1 : (d != b) = true := by simpa using hdb
        have HP := Lib.hid (HNot.out k d hd.out hdb)
        clear hset hrow hfr ka ba HMa hbel hsz sa hMlt hdb
        go_wp2_with fail
        go_roundw
        case rel =>
          refine ⟨k + 1, by omega, by go_num, ?_, by rw [← hM]; exact BB.out⟩
          rw [HMb.out, show rowI (fun j => if j = k then (-1 : Int) else if j < k then plF G b su j else 0) own.length = rowI (fun p => if p < k + 1 then plF G b su p else 0) own.length from rowI_congr fun j _ => by
            by_cases h1 : j = k
            · subst h1; rw [if_pos rfl, if_pos (by omega), HP.out]
            · rw [if_neg h1]
              by_cases h2 : j < k
              · rw [if_pos h2, if_pos (by omega)]
              · rw [if_neg h2, if_neg (by omega)]]
        case measure => simp [intOf]; omega
    · have hks : k = own.length := by omega
      subst hks
      have HE := Lib.hid (show rowI (fun p => if p < own.length then plF G b su p else 0) own.length = (ints (plL G b su)).toArray by rw [HRow.out, ← rowI_ints]; exact rowI_congr fun j hj => by rw [if_pos hj])
      go_wp2_with fail
      go_ret
      refine ⟨_, own.length, by rw [HLn.out]; rfl, by rw [HLn.out]; exact Nat.le_refl _, fresh_at w (by have := BW1.out.size; omega), Rd.of_block (by rw [← HE.out]; exact HM.out), ?_⟩
      exact BW1.out.trans (BW.out.mono BW1.out.size)
set_option maxRecDepth 4000 in
set_option maxHeartbeats 800000 in
theorem plan1F_any (R : List Int) (f t br bs bf : Nat) (q : Bool) (w : World) (hs : w.cell? ⟨bs, 0, none⟩ = some (.func (.func 33) #[] #[.pointer (some ⟨br, 0, none⟩)])) (hf : w.cell? ⟨bf, 0, none⟩ = some (.int .i64 f))
    (HS : Calls Try.prog 33 #[.int .i64 f, .int .i64 t, .pointer (some ⟨br, 0, none⟩)] w fun e w' => e = .returned (.bool q) ∧ Below w.heap.size w w') :
    Calls Try.prog 45 #[.int .i64 t, .pointer (some ⟨bs, 0, none⟩), .pointer (some ⟨bf, 0, none⟩)] w fun e w' => e = .returned (.bool q) ∧ Below w.heap.size w w' := by
  have H := Lib.hid HS
  clear HS
  go_enter Try.func45, Try.ntmps45
  go_wp2_with (go_at_call 33; refine H.out.mono ?_; rintro e w2 ⟨rfl, hb⟩; have B2 := Lib.hid hb; clear hb)
  go_ret
  exact ⟨rfl, B2.out⟩
set_option maxRecDepth 4000 in
set_option maxHeartbeats 3200000 in
theorem planOfF_any (g : Gv) (b : Int) (br : Nat) (su : Nat → Nat → Bool) (w : World) (hr : RdG w w.heap.size g) (hf : Gfit g) (hE : gE g.G = 0)
    (HS : ∀ w', Below w.heap.size w w' → ∀ f t : Nat, f < g.own.length → t < g.own.length → Calls Try.prog 33 #[.int .i64 f, .int .i64 t, .pointer (some ⟨br, 0, none⟩)] w' fun e w'' => e = .returned (.bool (su f t)) ∧ Below w'.heap.size w' w'') :
    Calls Try.prog 31 #[g.v, .int .i64 b, .func (.func 33) #[] #[.pointer (some ⟨br, 0, none⟩)]] w (MadeI w (plL g.G b su)) := by
  obtain ⟨W, hl⟩ := laid_of w g hr hf hE
  have LA := Lib.hid hl
  have hn16 := hl.le
  have HSu := Lib.hid HS
  have HNot := Lib.hid (fun p d hd h => plF_not (G := g.G) (b := b) (su := su) (p := p) (d := d) hd h)
  have HIdx := Lib.hid (fun p l hd hl => plF_idx (G := g.G) (b := b) (su := su) (p := p) (l := l) hd hl)
  have HLn := Lib.hid (show (plL g.G b su).length = g.own.length by simp [plL, Gv.G])
  have HRow := Lib.hid (show plL g.G b su = (List.range g.own.length).map (plF g.G b su) from rfl)
  clear hr hf hE hl HS
  unfold Gv.v
  have hGo : g.G.own = g.own := rfl
  rw [hGo] at HNot HIdx
  generalize g.G = G at *
  obtain ⟨A0, c0, own, A1, c1, rs⟩ := g
  simp only at LA HSu HNot HIdx HLn HRow hn16 ⊢
  clear hGo
  have hW := LA.out.hW
  have p0 := LA.out.p0
  have p1 := LA.out.p1
  obtain ⟨i0, hi, hz0, hz1, hz2⟩ := info_parts Try.eInt.hi
  obtain ⟨W1, hW1, k1, s1, b1⟩ := one_blk W #[.func (.func 33) #[] #[.pointer (some ⟨br, 0, none⟩)]] 52
  have q0 := cell_keep p0 b1 LA.out.hz
  have q1 := cell_keep p1 b1 LA.out.hz
  go_enter Try.func31, Try.ntmps31
  go_wp2_with ((at_make; refine wpList_make_full _ rfl (.tmp 12) (.tmp 12) 22 rfl W1.heap.size 3 i0 (.int .i64 0) 1 Try.underlying22 hi hz0 hz1 .i64 .i64 _ _ own.length rfl rfl rfl rfl (by rw [hz2]; omega) (by simp only [maxLen]; omega) (Nat.le_refl _) ?_; intro w3 hown hgr; have MD := Lib.hid (made_ints hown hgr); clear hown hgr))
  have KS := Lib.hid k1
  have BW1 := Lib.hid (LA.out.b.trans (b1.mono LA.out.b.size))
  have RG1 := Lib.hid (LA.out.rg.up b1)
  have O1 := Lib.hid (LA.out.r0.up b1)
  have M1 := Lib.hid (LA.out.r1.up b1)
  have hz1' : w.heap.size < W1.heap.size := Nat.lt_of_lt_of_le LA.out.hz b1.size
  have ZZ := Lib.hid hz1'
  have ZS := Lib.hid s1
  clear hW hW1 hi hz0 hz1 hz2 k1 b1 p0 p1 hz1'
  clear s1
  obtain ⟨M, hM⟩ : ∃ M, W1.heap.size = M := ⟨_, rfl⟩
  have MB := Lib.hid MD.out.1
  have MR := Lib.hid (show w3.heap[M]? = some (.cells (rowI (fun p => if p < 0 then plF G b su p else 0) own.length) 3 (0, 0)) by
    rw [← hM, MD.out.2]; congr 2)
  rw [hM] at MB
  rw [hM]
  clear MD
  have Q0 := Lib.hid q0
  have Q1 := Lib.hid q1
  clear q0 q1
  go_loopw [16] (fun i wr => ∃ k : Nat, k ≤ own.length ∧ i = .int .i64 k ∧ wr.heap[M]? = some (.cells (rowI (fun p => if p < k then plF G b su p else 0) own.length) 3 (0, 0)) ∧ Below M W1 wr) (fun i _ => own.length - (intOf i).toNat)
  case atStart => exact ⟨0, by omega, rfl, MR.out, MB.out⟩
  case round =>
    obtain ⟨k, hk, rfl, hMr, hb⟩ := hrel
    have HM := Lib.hid hMr
    have hb' : Below W1.heap.size W1 wr := by rw [hM]; exact hb
    have BW := Lib.hid hb'
    have hMlt : M < wr.heap.size := lt_of_block hMr
    clear hMr hb hb'
    by_cases hlt : k < own.length
    · obtain ⟨wa, hwa, ka, sa, ba⟩ := one_blk wr #[.int .i64 (k : Int)] 3
      have HMa := (ba.block _ hMlt).trans HM.out
      obtain ⟨wb, hwb⟩ : ∃ wb, wa.setCell ⟨M, k, none⟩ (.int .i64 (-1)) = wb := ⟨_, rfl⟩
      have HMb := Lib.hid (show wb.heap[M]? = some (.cells (rowI (fun j => if j = k then -1 else if j < k then plF G b su j else 0) own.length) 3 (0, 0)) by rw [← hwb]; exact pl_store HMa k (-1))
      have c2 : wa.cell? ⟨M, k, none⟩ = some (.int .i64 (if k < k then plF G b su k else 0)) := by rw [blk_cell HMa]; exact rowV_at hlt
      generalize (if k < k then plF G b su k else 0) = old at c2
      have hfree := blk_free HMa k
      have hbel : Below M wa wb := by rw [← hwb]; exact ((Only.refl M wa).set k _).below (Nat.le_refl M)
      have BB := Lib.hid (show Below W1.heap.size W1 wb from BW.out.trans ((ba.mono (by rw [hM]; exact Nat.le_of_lt hMlt)).trans (by rw [hM]; exact hbel)))
      have hsz : wb.heap.size = wa.heap.size := by rw [← hwb]; simp [World.setCell]
      have hfr : wb.heap[wr.heap.size]? = some (.cells #[.int .i64 (k : Int)] 3 (0, 0)) := by rw [← hwb]; exact (heap_set_far (by omega) _ _).trans ka
      have ca : wa.cell? ⟨wr.heap.size, 0, none⟩ = some (.int .i64 (k : Int)) := by rw [blk_cell ka]; rfl
      have cb : wb.cell? ⟨wr.heap.size, 0, none⟩ = some (.int .i64 (k : Int)) := by rw [blk_cell hfr]; rfl
      have t0 := cell_keep Q0.out BB.out ZZ.out
      have t1 := cell_keep Q1.out BB.out ZZ.out
      have ts : wb.cell? ⟨W.heap.size, 0, none⟩ = some (.func (.func 33) #[] #[.pointer (some ⟨br, 0, none⟩)]) := by rw [blk_cell ((BB.out.block _ ZS.out).trans KS.out)]; rfl
      have OB := Lib.hid (O1.out.up BB.out)
      have MBB := Lib.hid (M1.out.up BB.out)
      obtain ⟨bo, oo, d, rfl, hd, hc⟩ := OB.out.int k hlt
      obtain ⟨b2, o', A', c', l, rfl, hx, hc', hl⟩ := MBB.out.row k (by have := LA.out.len; omega)
      have hkr : (k : Int) < (rs.length : Int) := by have := LA.out.len; omega
      have hkr2 : k < rs.length := by have := LA.out.len; omega
      have b0 : (0 : Int) ≤ (k : Int) := by omega
      have b1 : (k : Int) < (own.length : Int) := by omega
      have hset := LA.out.set k _ _ _ hx.out
      have hll := LA.out.fit _ (List.mem_of_getElem? hx.out)
      simp only at hll
      have hrow := LA.out.row k _ _ _ hx.out
      have ST := Lib.hid (show wb.heap.size = wa.heap.size ∧ wr.heap.size < wa.heap.size ∧ M < wr.heap.size from ⟨hsz, sa, hMlt⟩)
      by_cases hdb : d = b
      · subst hdb
        have e1 : (d != d) = false := by simp
        have HCall := Lib.hid (show ∀ w', Below wb.heap.size wb w' → ∀ x ∈ l, Calls Try.prog 45 #[.int .i64 x, .pointer (some ⟨W.heap.size, 0, none⟩), .pointer (some ⟨wr.heap.size, 0, none⟩)] w' fun e w'' => e = .returned (.bool (su k x.toNat)) ∧ Below w'.heap.size w' w'' from fun w' hw' x hx2 => by
          have h1 := set_mem hset hx2
          obtain ⟨t, rfl⟩ := Int.eq_ofNat_of_zero_le h1.1
          rw [Int.toNat_natCast]
          have hWb : W.heap.size < wb.heap.size := by have := BB.out.size; have := ZS.out; omega
          have h2 := BW1.out.trans (BB.out.mono BW1.out.size)
          have h3 := h2.trans (hw'.mono h2.size)
          exact plan1F_any [] k t br W.heap.size wr.heap.size (su k t) w' (cell_keep ts hw' hWb) (cell_keep cb hw' (by omega)) (HSu.out w' h3 k t hlt (by omega)))
        have HIF := Lib.hid (IndexFunc_any A' c' l W.heap.size wr.heap.size (fun x => su k x.toNat) wb hl.out hll HCall.out)
        have HR2 := HIdx.out k l hd.out hrow
        have HL2 := Lib.hid hl.out
        clear hset hrow hfr ka ba HMa hbel hsz sa hMlt HCall
        rcases HR2 with ⟨hi1, hp1⟩ | ⟨i, x, hi1, hx1, hp1⟩
        · rw [hi1] at HIF
          have HP := Lib.hid hp1
          clear hi1 hp1
          go_wp2_with fail
          refine HIF.out.mono ?_
          rintro e w5 ⟨rfl, hb⟩
          have M5 := Lib.hid ((hb.block _ (lt_of_block HMb.out)).trans HMb.out)
          have B5 := Lib.hid (BB.out.trans (hb.mono (by have := ST.out; omega)))
          clear hb
          go_wp2_with fail
          go_roundw
          case rel =>
            refine ⟨k + 1, by omega, by go_num, ?_, by rw [← hM]; exact B5.out⟩
            rw [M5.out, show rowI (fun j => if j = k then (-1 : Int) else if j < k then plF G d su j else 0) own.length = rowI (fun p => if p < k + 1 then plF G d su p else 0) own.length from rowI_congr fun j _ => by
              by_cases h1 : j = k
              · subst h1; rw [if_pos rfl, if_pos (by omega), HP.out]
              · rw [if_neg h1]
                by_cases h2 : j < k
                · rw [if_pos h2, if_pos (by omega)]
                · rw [if_neg h2, if_neg (by omega)]]
          case measure => simp [intOf]; omega
        · rw [hi1] at HIF
          have HP := Lib.hid hp1
          have HX1 := Lib.hid hx1
          have hil : i < l.length := (List.getElem?_eq_some_iff.1 hx1).1
          have f0 : decide ((0 : Int) ≤ (i : Int)) = true := by rw [decide_eq_true_eq]; omega
          have f1 : (0 : Int) ≤ (i : Int) := by omega
          have f2 : (i : Int) < (l.length : Int) := by omega
          clear hi1 hp1 hx1
          go_wp2_with fail
          refine HIF.out.mono ?_
          rintro e w5 ⟨rfl, hb⟩
          have M5 := Lib.hid ((hb.block _ (lt_of_block HMb.out)).trans HMb.out)
          have B5 := Lib.hid (BB.out.trans (hb.mono (by have := ST.out; omega)))
          have u0 := cell_keep t0 hb (by have := ST.out; have := BB.out.size; have := ZZ.out; omega)
          have u1 := cell_keep t1 hb (by have := ST.out; have := BB.out.size; have := ZZ.out; omega)
          have ub := cell_keep cb hb (by have := ST.out; omega)
          have hb2lt : b2 < wb.heap.size := World.block_lt_of_cell? wb _ hc'
          have uc := cell_keep hc' hb hb2lt
          obtain ⟨b3, o3, x2, hA3, hx3, hc3⟩ := (HL2.out.up hb).int i hil
          obtain rfl := Option.some.inj (HX1.out.symm.trans hx3.out)
          subst hA3
          have cM : w5.cell? ⟨M, k, none⟩ = some (.int .i64 (if k = k then (-1 : Int) else if k < k then plF G d su k else 0)) := by rw [blk_cell M5.out]; exact rowV_at hlt
          generalize (if k = k then (-1 : Int) else if k < k then plF G d su k else 0) = old2 at cM
          have hfree2 := blk_free M5.out k
          have M6 := Lib.hid (pl_store M5.out k x)
          have B6 := Lib.hid (show Below W1.heap.size W1 (w5.setCell ⟨M, k, none⟩ (.int .i64 x)) from B5.out.trans (by rw [hM]; exact ((Only.refl M w5).set k _).below (Nat.le_refl M)))
          clear hb
          go_wp2_with fail
          go_region
          all_goals (
            go_wp2_with fail
            go_roundw
            case rel =>
              refine ⟨k + 1, by omega, by go_num, ?_, by have h := B6.out.drew; rw [hM] at h; exact h⟩
              show (w5.setCell ⟨M, k, none⟩ (.int .i64 x)).heap[M]? = _
              rw [M6.out, show rowI (fun j => if j = k then (x : Int) else if j = k then (-1 : Int) else if j < k then plF G d su j else 0) own.length = rowI (fun p => if p < k + 1 then plF G d su p else 0) own.length from rowI_congr fun j _ => by
                by_cases h1 : j = k
                · subst h1; rw [if_pos rfl, if_pos (by omega), HP.out]
                · rw [if_neg h1, if_neg h1]
                  by_cases h2 : j < k
                  · rw [if_pos h2, if_pos (by omega)]
                  · rw [if_neg h2, if_neg (by omega)]]
            case measure => simp [intOf]; omega)
      · have e1 : (d != b) = true := by simpa using hdb
        have HP := Lib.hid (HNot.out k d hd.out hdb)
        clear hset hrow hfr ka ba HMa hbel hsz sa hMlt hdb
        go_wp2_with fail
        go_roundw
        case rel =>
          refine ⟨k + 1, by omega, by go_num, ?_, by rw [← hM]; exact BB.out⟩
          rw [HMb.out, show rowI (fun j => if j = k then (-1 : Int) else if j < k then plF G b su j else 0) own.length = rowI (fun p => if p < k + 1 then plF G b su p else 0) own.length from rowI_congr fun j _ => by
            by_cases h1 : j = k
            · subst h1; rw [if_pos rfl, if_pos (by omega), HP.out]
            · rw [if_neg h1]
              by_cases h2 : j < k
              · rw [if_pos h2, if_pos (by omega)]
              · rw [if_neg h2, if_neg (by omega)]]
        case measure => simp [intOf]; omega
    · have hks : k = own.length := by omega
      subst hks
      have HE := Lib.hid (show rowI (fun p => if p < own.length then plF G b su p else 0) own.length = (ints (plL G b su)).toArray by rw [HRow.out, ← rowI_ints]; exact rowI_congr fun j hj => by rw [if_pos hj])
      go_wp2_with fail
      go_ret
      refine ⟨_, own.length, by rw [HLn.out]; rfl, by rw [HLn.out]; exact Nat.le_refl _, fresh_at w (by have := BW1.out.size; omega), Rd.of_block (by rw [← HE.out]; exact HM.out), ?_⟩
      exact BW1.out.trans (BW.out.mono BW1.out.size)
end Go.Proofs.Ytibcjkpfpiamkab
namespace Go.Proofs.Ytibcjkpfpiamkab
open Go.RowKit
set_option linter.unusedVariables false

theorem bset {B b : Nat} {w w' : World} (h : Below B w w') (hB : B ≤ b) (i : Nat) (v : Value) : Below B w (w'.setCell ⟨b, i, none⟩ v) := h.trans (((Only.refl b w').set i v).below hB)
def plaL (G : Gm) (L : List Int) : List Int := if askE G L = 0 then plL G 0 (suP (rkL G (gatN L))) else []
def fleL (G : Gm) (L : List Int) : List Int := if askE G L = 0 then plL G 1 (suF (rkL G (gatN L))) else []
set_option maxRecDepth 4000 in
set_option maxHeartbeats 3200000 in
theorem Plan_any (g : Gv) (A : Option Addr) (c : Nat) (L : List Int) (w : World) (hr : RdG w w.heap.size g) (hf : Gfit g) (hq : Rd w w.heap.size A (ints L)) (hn : L.length ≤ 9223372036854775807) :
    Calls Try.prog 11 #[g.v, .slice A L.length c] w (MadeIE w (plaL g.G L) (askE g.G L)) := by
  obtain ⟨W, hW, p0, p1, hz, hb, hr1⟩ := box_game w g 25 hr
  have R1 := Lib.hid (hq.up hb)
  have B0 := Lib.hid hb
  obtain ⟨W2, hW2, hb2, HC⟩ := ask_one g A c L W hr1 hf R1.out hn
  have B2 := Lib.hid (hb.trans (hb2.mono hb.size))
  have HCh := Lib.hid HC
  have RG2 := Lib.hid (hr1.up hb2)
  have R2 := Lib.hid (R1.out.up hb2)
  have q0 := cell_keep p0 hb2 hz
  have q1 := cell_keep p1 hb2 hz
  have hz2 : w.heap.size < W2.heap.size := Nat.lt_of_lt_of_le hz hb2.size
  unfold plaL
  by_cases hE : askE g.G L = 0
  · rw [if_pos hE, hE]
    rw [hE] at HCh
    obtain ⟨hG0, hs⟩ := askE_zero hE
    have h16 : g.G.own.length ≤ 16 := (gE_zero hG0).le
    have hg : gatN L < 2 ^ g.G.own.length := gat_lt hs (by omega)
    have HG := Lib.hid (fun w h => gather_any A c L g.own.length w h hn hs (show ((g.own.length : Nat) : Int) ≤ 31 by have e : g.G.own = g.own := rfl; rw [e] at h16; omega))
    have HRk := Lib.hid (fun w h => ranksOf_any g (gatN L) w h hf hG0 hg)
    have hRl : (rkL g.G (gatN L)).length = g.own.length := rkL_len _ _
    have HPl := Lib.hid (fun br w h HS => planOfP_any g 0 br (suP (rkL g.G (gatN L))) w h hf hG0 HS)
    clear hr hf hq hn hb hr1 hb2 HC hE hG0 hs h16 hg
    unfold Gv.v at HCh HRk HPl ⊢
    generalize rkL g.G (gatN L) = RK at *
    generalize g.G = G at *
    obtain ⟨A0, c0, own, A1, c1, rs⟩ := g
    simp only at hW p0 p1 q0 q1 HCh HRk HPl hRl ⊢
    have HRl := Lib.hid hRl
    clear hRl
    go_enter Try.func11, Try.ntmps11
    go_wp2_with fail
    refine (HCh.out).mono ?_
    rintro e w3 ⟨rfl, hb⟩
    have B3 := Lib.hid (B2.out.trans (hb.mono B2.out.size))
    have RG3 := Lib.hid ((RG2.out.up hb).up (Below.refl w3.heap.size w3).drew)
    have R3 := Lib.hid (R2.out.up hb)
    have HK := Lib.hid (fun (w5 : World) (h : Below w3.heap.size w3 w5) => And.intro (cell_keep (cell_keep q0 hb hz2) h (Nat.lt_of_lt_of_le hz2 hb.size)) (cell_keep (cell_keep q1 hb hz2) h (Nat.lt_of_lt_of_le hz2 hb.size)))
    have HS0 := Lib.hid (HK.out w3.drew ((Below.refl _ w3).drew))
    have BD := Lib.hid ((Below.refl w3.heap.size w3).drew)
    have BA := Lib.hid (((Below.refl w3.heap.size w3).drew).alloc (Nat.le_refl _) (.cells #[.slice none 0 0] 22))
    have HSa := Lib.hid (HK.out _ BA.out)
    have RGa := Lib.hid (RG3.out.up ((Below.refl w3.drew.heap.size w3.drew).alloc (Nat.le_refl _) (.cells #[.slice none 0 0] 22)))
    have Ra := Lib.hid (show Rd (w3.drew.alloc (.cells #[.slice none 0 0] 22)) (w3.drew.alloc (.cells #[.slice none 0 0] 22)).heap.size A (ints L) from Rd.up (show Rd w3.drew w3.drew.heap.size A (ints L) from R3.out) ((Below.refl w3.drew.heap.size w3.drew).alloc (Nat.le_refl _) _))
    have hz3 : w.heap.size < w3.heap.size := Nat.lt_of_lt_of_le hz2 hb.size
    have ca : (w3.drew.alloc (.cells #[.slice none 0 0] 22)).heap[w3.heap.size]? = some (.cells #[.slice none 0 0] 22 (0, 0)) := heap_alloc_new w3.drew _
    have KA := Lib.hid ca
    have Z3 := Lib.hid hz3
    clear hb q0 q1 p0 p1 hW hW2 ca hz3
    go_wp2_with fail
    go_region_held3 (fun w' => w'.cell? ⟨w.heap.size, 0, none⟩ = some (.slice A0 own.length c0) ∧ w'.cell? ⟨w.heap.size, 1, none⟩ = some (.slice A1 rs.length c1))
      (first | exact HS0.out | exact HSa.out | exact SK.out | exact SKa.out | exact SKb.out | exact SKs.out | go_keep)
      ((first
        | (go_at_call 21; refine (HG.out w3.drew R3.out).mono ?_; rintro e wq ⟨rfl, rfl⟩)
        | (go_at_call 21; refine (HG.out _ Ra.out).mono ?_; rintro e wq ⟨rfl, rfl⟩)
        | (go_at_call 20; refine (HRk.out w3.drew RG3.out).mono ?_; rintro e w4 ⟨A4, c4, rfl, hc4, hf4, hr4, hb4⟩; have M1 := Lib.hid (And.intro hf4 (And.intro hr4 hb4)); have SK := Lib.hid (HK.out w4 (BD.out.trans hb4)); have SKa := Lib.hid (HK.out _ ((BD.out.trans hb4).alloc (BD.out.trans hb4).size (.cells #[.slice none 0 0] 22))); have SKb := Lib.hid (HK.out _ ((BD.out.trans hb4).alloc (BD.out.trans hb4).size (.cells #[.slice A4 RK.length c4] 22))))
        | (go_at_call 20; refine (HRk.out _ RGa.out).mono ?_; rintro e w4 ⟨A4, c4, rfl, hc4, hf4, hr4, hb4⟩; have M2 := Lib.hid (And.intro hf4 (And.intro hr4 hb4)); have SK := Lib.hid (HK.out w4 (BA.out.trans (hb4.mono BA.out.size))); have hk4 := (hb4.block _ (lt_of_block KA.out)).trans KA.out; have c4e : w4.cell? ⟨w3.heap.size, 0, none⟩ = some (.slice none 0 0) := (by rw [blk_cell hk4]; rfl); have fr4 := blk_free hk4 0; have SKs := Lib.hid (HK.out _ (bset (BA.out.trans (hb4.mono BA.out.size)) (Nat.le_refl w3.heap.size) 0 (.slice A4 RK.length c4))))))
    all_goals (
      first
        | (have fc : (w4.alloc (.cells #[.slice A4 RK.length c4] 22)).cell? ⟨w4.heap.size, 0, none⟩ = some (.slice A4 RK.length c4) := by rw [blk_cell (heap_alloc_new w4 _)]; rfl
           have fr := M1.out.2.1.alloc_up (.cells #[.slice A4 RK.length c4] 22)
           have fb : Below w3.heap.size w3 (w4.alloc (.cells #[.slice A4 RK.length c4] 22)) := (BD.out.trans M1.out.2.2).alloc (BD.out.trans M1.out.2.2).size _
           obtain ⟨Wf, hWf⟩ : ∃ Wf, w4.alloc (.cells #[.slice A4 RK.length c4] 22) = Wf := ⟨_, rfl⟩
           rw [hWf] at fc fr fb ⊢
           obtain ⟨br, hbr⟩ : ∃ br, w4.heap.size = br := ⟨_, rfl⟩
           rw [hbr] at fc ⊢
           clear hWf hbr)
        | (have hk4 := (M2.out.2.2.block _ (lt_of_block KA.out)).trans KA.out
           have fc : (w4.setCell ⟨w3.heap.size, 0, none⟩ (.slice A4 RK.length c4)).cell? ⟨w3.heap.size, 0, none⟩ = some (.slice A4 RK.length c4) := by rw [blk_cell (blk_set hk4 0 _)]; rfl
           have fb : Below w3.heap.size w3 (w4.setCell ⟨w3.heap.size, 0, none⟩ (.slice A4 RK.length c4)) := bset (BA.out.trans (M2.out.2.2.mono BA.out.size)) (Nat.le_refl w3.heap.size) 0 _
           have fr : Rd (w4.setCell ⟨w3.heap.size, 0, none⟩ (.slice A4 RK.length c4)) (w4.setCell ⟨w3.heap.size, 0, none⟩ (.slice A4 RK.length c4)).heap.size A4 (ints RK) := by
             rcases M2.out.2.1 with h0 | ⟨b, o, ha, hlt, hc⟩
             · exact .inl h0
             · have hfb := M2.out.1 _ ha
               have hsz : (w3.drew.alloc (.cells #[.slice none 0 0] 22)).heap.size = w3.heap.size + 1 := by simp
               rw [hsz] at hfb
               simp only at hfb
               exact .inr ⟨b, o, ha, by simp [World.setCell]; exact hlt, fun i u hi => (((Only.refl w3.heap.size w4).set 0 _).cell (by omega)).trans (hc i u hi)⟩
           obtain ⟨Wf, hWf⟩ : ∃ Wf, w4.setCell ⟨w3.heap.size, 0, none⟩ (.slice A4 RK.length c4) = Wf := ⟨_, rfl⟩
           rw [hWf] at fc fr fb ⊢
           obtain ⟨br, hbr⟩ : ∃ br, w3.heap.size = br := ⟨_, rfl⟩
           rw [hbr] at fc ⊢
           clear hWf hbr hk4)
      have CE := Lib.hid fc
      have RF := Lib.hid fr
      have BF := Lib.hid fb
      have RGf := Lib.hid (RG3.out.up (show Below w3.drew.heap.size w3.drew Wf from ⟨fb.os, fb.tape, fb.output, fb.size, fb.block⟩))
      obtain ⟨t0, t1⟩ := HK.out Wf fb
      have hbrl : br < Wf.heap.size := World.block_lt_of_cell? Wf _ fc
      have HSs := Lib.hid (show ∀ w', Below Wf.heap.size Wf w' → ∀ f t : Nat, f < own.length → t < own.length → Calls Try.prog 32 #[.int .i64 f, .int .i64 t, .pointer (some ⟨br, 0, none⟩)] w' fun e w'' => e = .returned (.bool (suP RK f t)) ∧ Below w'.heap.size w' w'' from fun w' hw' f t hf ht => suitP_any RK f t br A4 c4 w' (cell_keep CE.out hw' hbrl) (RF.out.up hw') (by have := HRl.out; omega) (by have := HRl.out; omega))
      have HPf := Lib.hid (HPl.out br Wf RGf.out HSs.out)
      have BFF := Lib.hid (B3.out.trans (fb.mono B3.out.size))
      clear fc fr fb hbrl HSs
      go_wp2_with fail
      refine HPf.out.mono ?_
      rintro e w7 ⟨A7, c7, rfl, hc7, hf7, hr7, hb7⟩
      go_wp2_with fail
      go_ret2
      exact ⟨A7, c7, rfl, hc7, hf7.le BFF.out.size, hr7, BFF.out.trans (hb7.mono BFF.out.size)⟩)
  · rw [if_neg hE]
    generalize askE g.G L = E at *
    have hb1 : (E == 0) = false := by simpa using hE
    have hb2' : (E != 0) = true := by simpa using hE
    clear hr hf hq hn hb hr1 hb2 HC hE
    unfold Gv.v at HCh ⊢
    generalize g.G = G at *
    obtain ⟨A0, c0, own, A1, c1, rs⟩ := g
    simp only at hW p0 p1 q0 q1 HCh ⊢
    go_enter Try.func11, Try.ntmps11
    go_wp2_with fail
    refine (HCh.out).mono ?_
    rintro e w3 ⟨rfl, hb⟩
    have B3 := Lib.hid (B2.out.trans (hb.mono B2.out.size))
    clear hb
    go_wp2_with fail
    go_ret2
    exact ⟨none, 0, rfl, by decide, fresh_nil w, .inl rfl, B3.out⟩

set_option maxRecDepth 4000 in
set_option maxHeartbeats 3200000 in
theorem Flee_any (g : Gv) (A : Option Addr) (c : Nat) (L : List Int) (w : World) (hr : RdG w w.heap.size g) (hf : Gfit g) (hq : Rd w w.heap.size A (ints L)) (hn : L.length ≤ 9223372036854775807) :
    Calls Try.prog 12 #[g.v, .slice A L.length c] w (MadeIE w (fleL g.G L) (askE g.G L)) := by
  obtain ⟨W, hW, p0, p1, hz, hb, hr1⟩ := box_game w g 25 hr
  have R1 := Lib.hid (hq.up hb)
  have B0 := Lib.hid hb
  obtain ⟨W2, hW2, hb2, HC⟩ := ask_one g A c L W hr1 hf R1.out hn
  have B2 := Lib.hid (hb.trans (hb2.mono hb.size))
  have HCh := Lib.hid HC
  have RG2 := Lib.hid (hr1.up hb2)
  have R2 := Lib.hid (R1.out.up hb2)
  have q0 := cell_keep p0 hb2 hz
  have q1 := cell_keep p1 hb2 hz
  have hz2 : w.heap.size < W2.heap.size := Nat.lt_of_lt_of_le hz hb2.size
  unfold fleL
  by_cases hE : askE g.G L = 0
  · rw [if_pos hE, hE]
    rw [hE] at HCh
    obtain ⟨hG0, hs⟩ := askE_zero hE
    have h16 : g.G.own.length ≤ 16 := (gE_zero hG0).le
    have hg : gatN L < 2 ^ g.G.own.length := gat_lt hs (by omega)
    have HG := Lib.hid (fun w h => gather_any A c L g.own.length w h hn hs (show ((g.own.length : Nat) : Int) ≤ 31 by have e : g.G.own = g.own := rfl; rw [e] at h16; omega))
    have HRk := Lib.hid (fun w h => ranksOf_any g (gatN L) w h hf hG0 hg)
    have hRl : (rkL g.G (gatN L)).length = g.own.length := rkL_len _ _
    have HPl := Lib.hid (fun br w h HS => planOfF_any g 1 br (suF (rkL g.G (gatN L))) w h hf hG0 HS)
    clear hr hf hq hn hb hr1 hb2 HC hE hG0 hs h16 hg
    unfold Gv.v at HCh HRk HPl ⊢
    generalize rkL g.G (gatN L) = RK at *
    generalize g.G = G at *
    obtain ⟨A0, c0, own, A1, c1, rs⟩ := g
    simp only at hW p0 p1 q0 q1 HCh HRk HPl hRl ⊢
    have HRl := Lib.hid hRl
    clear hRl
    go_enter Try.func12, Try.ntmps12
    go_wp2_with fail
    refine (HCh.out).mono ?_
    rintro e w3 ⟨rfl, hb⟩
    have B3 := Lib.hid (B2.out.trans (hb.mono B2.out.size))
    have RG3 := Lib.hid ((RG2.out.up hb).up (Below.refl w3.heap.size w3).drew)
    have R3 := Lib.hid (R2.out.up hb)
    have HK := Lib.hid (fun (w5 : World) (h : Below w3.heap.size w3 w5) => And.intro (cell_keep (cell_keep q0 hb hz2) h (Nat.lt_of_lt_of_le hz2 hb.size)) (cell_keep (cell_keep q1 hb hz2) h (Nat.lt_of_lt_of_le hz2 hb.size)))
    have HS0 := Lib.hid (HK.out w3.drew ((Below.refl _ w3).drew))
    have BD := Lib.hid ((Below.refl w3.heap.size w3).drew)
    have BA := Lib.hid (((Below.refl w3.heap.size w3).drew).alloc (Nat.le_refl _) (.cells #[.slice none 0 0] 22))
    have HSa := Lib.hid (HK.out _ BA.out)
    have RGa := Lib.hid (RG3.out.up ((Below.refl w3.drew.heap.size w3.drew).alloc (Nat.le_refl _) (.cells #[.slice none 0 0] 22)))
    have Ra := Lib.hid (show Rd (w3.drew.alloc (.cells #[.slice none 0 0] 22)) (w3.drew.alloc (.cells #[.slice none 0 0] 22)).heap.size A (ints L) from Rd.up (show Rd w3.drew w3.drew.heap.size A (ints L) from R3.out) ((Below.refl w3.drew.heap.size w3.drew).alloc (Nat.le_refl _) _))
    have hz3 : w.heap.size < w3.heap.size := Nat.lt_of_lt_of_le hz2 hb.size
    have ca : (w3.drew.alloc (.cells #[.slice none 0 0] 22)).heap[w3.heap.size]? = some (.cells #[.slice none 0 0] 22 (0, 0)) := heap_alloc_new w3.drew _
    have KA := Lib.hid ca
    have Z3 := Lib.hid hz3
    clear hb q0 q1 p0 p1 hW hW2 ca hz3
    go_wp2_with fail
    go_region_held3 (fun w' => w'.cell? ⟨w.heap.size, 0, none⟩ = some (.slice A0 own.length c0) ∧ w'.cell? ⟨w.heap.size, 1, none⟩ = some (.slice A1 rs.length c1))
      (first | exact HS0.out | exact HSa.out | exact SK.out | exact SKa.out | exact SKb.out | exact SKs.out | go_keep)
      ((first
        | (go_at_call 21; refine (HG.out w3.drew R3.out).mono ?_; rintro e wq ⟨rfl, rfl⟩)
        | (go_at_call 21; refine (HG.out _ Ra.out).mono ?_; rintro e wq ⟨rfl, rfl⟩)
        | (go_at_call 20; refine (HRk.out w3.drew RG3.out).mono ?_; rintro e w4 ⟨A4, c4, rfl, hc4, hf4, hr4, hb4⟩; have M1 := Lib.hid (And.intro hf4 (And.intro hr4 hb4)); have SK := Lib.hid (HK.out w4 (BD.out.trans hb4)); have SKa := Lib.hid (HK.out _ ((BD.out.trans hb4).alloc (BD.out.trans hb4).size (.cells #[.slice none 0 0] 22))); have SKb := Lib.hid (HK.out _ ((BD.out.trans hb4).alloc (BD.out.trans hb4).size (.cells #[.slice A4 RK.length c4] 22))))
        | (go_at_call 20; refine (HRk.out _ RGa.out).mono ?_; rintro e w4 ⟨A4, c4, rfl, hc4, hf4, hr4, hb4⟩; have M2 := Lib.hid (And.intro hf4 (And.intro hr4 hb4)); have SK := Lib.hid (HK.out w4 (BA.out.trans (hb4.mono BA.out.size))); have hk4 := (hb4.block _ (lt_of_block KA.out)).trans KA.out; have c4e : w4.cell? ⟨w3.heap.size, 0, none⟩ = some (.slice none 0 0) := (by rw [blk_cell hk4]; rfl); have fr4 := blk_free hk4 0; have SKs := Lib.hid (HK.out _ (bset (BA.out.trans (hb4.mono BA.out.size)) (Nat.le_refl w3.heap.size) 0 (.slice A4 RK.length c4))))))
    all_goals (
      first
        | (have fc : (w4.alloc (.cells #[.slice A4 RK.length c4] 22)).cell? ⟨w4.heap.size, 0, none⟩ = some (.slice A4 RK.length c4) := by rw [blk_cell (heap_alloc_new w4 _)]; rfl
           have fr := M1.out.2.1.alloc_up (.cells #[.slice A4 RK.length c4] 22)
           have fb : Below w3.heap.size w3 (w4.alloc (.cells #[.slice A4 RK.length c4] 22)) := (BD.out.trans M1.out.2.2).alloc (BD.out.trans M1.out.2.2).size _
           obtain ⟨Wf, hWf⟩ : ∃ Wf, w4.alloc (.cells #[.slice A4 RK.length c4] 22) = Wf := ⟨_, rfl⟩
           rw [hWf] at fc fr fb ⊢
           obtain ⟨br, hbr⟩ : ∃ br, w4.heap.size = br := ⟨_, rfl⟩
           rw [hbr] at fc ⊢
           clear hWf hbr)
        | (have hk4 := (M2.out.2.2.block _ (lt_of_block KA.out)).trans KA.out
           have fc : (w4.setCell ⟨w3.heap.size, 0, none⟩ (.slice A4 RK.length c4)).cell? ⟨w3.heap.size, 0, none⟩ = some (.slice A4 RK.length c4) := by rw [blk_cell (blk_set hk4 0 _)]; rfl
           have fb : Below w3.heap.size w3 (w4.setCell ⟨w3.heap.size, 0, none⟩ (.slice A4 RK.length c4)) := bset (BA.out.trans (M2.out.2.2.mono BA.out.size)) (Nat.le_refl w3.heap.size) 0 _
           have fr : Rd (w4.setCell ⟨w3.heap.size, 0, none⟩ (.slice A4 RK.length c4)) (w4.setCell ⟨w3.heap.size, 0, none⟩ (.slice A4 RK.length c4)).heap.size A4 (ints RK) := by
             rcases M2.out.2.1 with h0 | ⟨b, o, ha, hlt, hc⟩
             · exact .inl h0
             · have hfb := M2.out.1 _ ha
               have hsz : (w3.drew.alloc (.cells #[.slice none 0 0] 22)).heap.size = w3.heap.size + 1 := by simp
               rw [hsz] at hfb
               simp only at hfb
               exact .inr ⟨b, o, ha, by simp [World.setCell]; exact hlt, fun i u hi => (((Only.refl w3.heap.size w4).set 0 _).cell (by omega)).trans (hc i u hi)⟩
           obtain ⟨Wf, hWf⟩ : ∃ Wf, w4.setCell ⟨w3.heap.size, 0, none⟩ (.slice A4 RK.length c4) = Wf := ⟨_, rfl⟩
           rw [hWf] at fc fr fb ⊢
           obtain ⟨br, hbr⟩ : ∃ br, w3.heap.size = br := ⟨_, rfl⟩
           rw [hbr] at fc ⊢
           clear hWf hbr hk4)
      have CE := Lib.hid fc
      have RF := Lib.hid fr
      have BF := Lib.hid fb
      have RGf := Lib.hid (RG3.out.up (show Below w3.drew.heap.size w3.drew Wf from ⟨fb.os, fb.tape, fb.output, fb.size, fb.block⟩))
      obtain ⟨t0, t1⟩ := HK.out Wf fb
      have hbrl : br < Wf.heap.size := World.block_lt_of_cell? Wf _ fc
      have HSs := Lib.hid (show ∀ w', Below Wf.heap.size Wf w' → ∀ f t : Nat, f < own.length → t < own.length → Calls Try.prog 33 #[.int .i64 f, .int .i64 t, .pointer (some ⟨br, 0, none⟩)] w' fun e w'' => e = .returned (.bool (suF RK f t)) ∧ Below w'.heap.size w' w'' from fun w' hw' f t hf ht => suitF_any RK f t br A4 c4 w' (cell_keep CE.out hw' hbrl) (RF.out.up hw') (by have := HRl.out; omega) (by have := HRl.out; omega))
      have HPf := Lib.hid (HPl.out br Wf RGf.out HSs.out)
      have BFF := Lib.hid (B3.out.trans (fb.mono B3.out.size))
      clear fc fr fb hbrl HSs
      go_wp2_with fail
      refine HPf.out.mono ?_
      rintro e w7 ⟨A7, c7, rfl, hc7, hf7, hr7, hb7⟩
      go_wp2_with fail
      go_ret2
      exact ⟨A7, c7, rfl, hc7, hf7.le BFF.out.size, hr7, BFF.out.trans (hb7.mono BFF.out.size)⟩)
  · rw [if_neg hE]
    generalize askE g.G L = E at *
    have hb1 : (E == 0) = false := by simpa using hE
    have hb2' : (E != 0) = true := by simpa using hE
    clear hr hf hq hn hb hr1 hb2 HC hE
    unfold Gv.v at HCh ⊢
    generalize g.G = G at *
    obtain ⟨A0, c0, own, A1, c1, rs⟩ := g
    simp only at hW p0 p1 q0 q1 HCh ⊢
    go_enter Try.func12, Try.ntmps12
    go_wp2_with fail
    refine (HCh.out).mono ?_
    rintro e w3 ⟨rfl, hb⟩
    have B3 := Lib.hid (B2.out.trans (hb.mono B2.out.size))
    clear hb
    go_wp2_with fail
    go_ret2
    exact ⟨none, 0, rfl, by decide, fresh_nil w, .inl rfl, B3.out⟩
end Go.Proofs.Ytibcjkpfpiamkab
namespace Go.Proofs.Ytibcjkpfpiamkab
open Go.RowKit
set_option linter.unusedVariables false

theorem su_find {L : List Int} {p : Int → Bool} (h : ∃ d ∈ L, p d = true) : ∃ d, L.find? p = some d ∧ d ∈ L ∧ p d = true := by
  cases hf : L.find? p with
  | none =>
    obtain ⟨d, hd, hp⟩ := h
    have := List.find?_eq_none.1 hf d hd
    rw [hp] at this
    exact absurd rfl this
  | some d => exact ⟨d, rfl, List.mem_of_find?_eq_some hf, List.find?_some hf⟩
theorem plF_none {G : Gm} {b : Int} {su : Nat → Nat → Bool} {p : Nat} (h : ∀ d ∈ G.row p, su p d.toNat = false) : plF G b su p = -1 := by
  unfold plF
  split
  · rw [List.find?_eq_none.2 fun d hd => by rw [h d hd]; decide]
    rfl
  · rfl
theorem plF_some {G : Gm} {b : Int} {su : Nat → Nat → Bool} {p : Nat} (hw : G.who p = b) (h : ∃ d ∈ G.row p, su p d.toNat = true) : ∃ d ∈ G.row p, plF G b su p = d ∧ su p d.toNat = true := by
  obtain ⟨d, h1, h2, h3⟩ := su_find (p := fun d => su p d.toNat) h
  refine ⟨d, h2, ?_, h3⟩
  unfold plF
  rw [if_pos hw, h1]
  rfl
theorem rkL_get {G : Gm} {goal p : Nat} (hp : p < G.own.length) : (rkL G goal).getD p 0 = rkI G goal p := by
  rw [List.getD_eq_getElem?_getD, rkL_at hp]; rfl
section
variable {G : Gm} {goal p : Nat}
theorem man_yes (H : Ok G) (hg : goal < 2 ^ G.own.length) (hp : p < G.own.length) (hw : G.who p = 0) (hr : 0 < rkI G goal p) :
    ∃ t : Nat, plF G 0 (suP (rkL G goal)) p = (t : Int) ∧ t < G.own.length ∧ (t : Int) ∈ G.row p ∧ 0 ≤ rkI G goal t ∧ rkI G goal t < rkI G goal p := by
  obtain ⟨m, hm⟩ := Int.eq_ofNat_of_zero_le (show 0 ≤ rkI G goal p - 1 by omega)
  have h2 := rk_some (k := m + 1) (show rkI G goal p = ((m + 1 : Nat) : Int) by omega)
  have e : lv G goal (m + 1 + 1) = goal ||| fcN G 0 (lv G goal (m + 1)) := rfl
  rw [e, Nat.testBit_or, fcN_at hp] at h2
  have hgoal : goal.testBit p = false := by
    cases hb : goal.testBit p
    · rfl
    · rw [goal_sub H m p hb] at h2; cases h2.2
  rw [hgoal, Bool.false_or] at h2
  have h3 := h2.1
  unfold fcB at h3
  rw [if_pos hw] at h3
  obtain ⟨d, hd, hb⟩ := List.any_eq_true.1 h3
  have hdm := H.mem hp hd
  rw [rk_iff hg] at hb
  have hsu : suP (rkL G goal) p d.toNat = true := by
    unfold suP
    rw [rkL_get hdm.2, rkL_get hp, Bool.and_eq_true, Bool.not_eq_true', decide_eq_false_iff_not, decide_eq_true_eq]
    omega
  obtain ⟨x, hx, hpx, hsx⟩ := plF_some (b := 0) (su := suP (rkL G goal)) hw ⟨d, hd, hsu⟩
  have hxm := H.mem hp hx
  unfold suP at hsx
  rw [rkL_get hxm.2, rkL_get hp, Bool.and_eq_true, Bool.not_eq_true', decide_eq_false_iff_not, decide_eq_true_eq] at hsx
  have := rk_ge (G := G) (goal := goal) x.toNat
  exact ⟨x.toNat, by rw [hpx]; omega, hxm.2, by rw [show ((x.toNat : Nat) : Int) = x by omega]; exact hx, by omega, hsx.2⟩
theorem man_no (H : Ok G) (hp : p < G.own.length) (h : ¬ (G.who p = 0 ∧ 0 < rkI G goal p)) : plF G 0 (suP (rkL G goal)) p = -1 := by
  by_cases hw : G.who p = 0
  · refine plF_none fun d hd => ?_
    have hdm := H.mem hp hd
    unfold suP
    rw [rkL_get hdm.2, rkL_get hp]
    have := rk_ge (G := G) (goal := goal) d.toNat
    by_cases h1 : rkI G goal d.toNat = -1
    · rw [decide_eq_true h1]; rfl
    · rw [decide_eq_false (show ¬ rkI G goal d.toNat < rkI G goal p by omega), Bool.and_false]
  · unfold plF
    rw [if_neg hw]
theorem duck_yes (H : Ok G) (hg : goal < 2 ^ G.own.length) (hp : p < G.own.length) (hw : G.who p = 1) (hr : rkI G goal p < 0) :
    ∃ t : Nat, plF G 1 (suF (rkL G goal)) p = (t : Int) ∧ t < G.own.length ∧ (t : Int) ∈ G.row p ∧ rkI G goal t < 0 := by
  have hge := rk_ge (G := G) (goal := goal) p
  have hnw : ¬ (wonN G goal).testBit p = true := by
    show ¬ (lv G goal G.own.length).testBit p = true
    rw [rk_won hg]; omega
  rw [← lv_fix (G := G) hg, Nat.testBit_or, fcN_at hp, Bool.not_eq_true, Bool.or_eq_false_iff] at hnw
  have h3 := hnw.2
  unfold fcB at h3
  rw [hw, if_neg (by decide)] at h3
  unfold inn at h3
  rw [List.all_eq_false] at h3
  obtain ⟨d, hd, hb⟩ := h3
  have hdm := H.mem hp hd
  have hrd : rkI G goal d.toNat = -1 := rk_none hg hb
  have hsu : suF (rkL G goal) p d.toNat = true := by
    unfold suF
    rw [rkL_get hdm.2, rkL_get hp, Bool.and_eq_true, decide_eq_true_eq, decide_eq_true_eq]
    omega
  obtain ⟨x, hx, hpx, hsx⟩ := plF_some (b := 1) (su := suF (rkL G goal)) hw ⟨d, hd, hsu⟩
  have hxm := H.mem hp hx
  unfold suF at hsx
  rw [rkL_get hxm.2, rkL_get hp, Bool.and_eq_true, decide_eq_true_eq, decide_eq_true_eq] at hsx
  exact ⟨x.toNat, by rw [hpx]; omega, hxm.2, by rw [show ((x.toNat : Nat) : Int) = x by omega]; exact hx, by omega⟩
theorem duck_no (H : Ok G) (hp : p < G.own.length) (h : ¬ (G.who p = 1 ∧ rkI G goal p < 0)) : plF G 1 (suF (rkL G goal)) p = -1 := by
  by_cases hw : G.who p = 1
  · refine plF_none fun d hd => ?_
    have hdm := H.mem hp hd
    unfold suF
    rw [rkL_get hdm.2, rkL_get hp, decide_eq_false (show ¬ rkI G goal p = -1 by omega)]
    rfl
  · unfold plF
    rw [if_neg hw]
end
theorem plL_at {G : Gm} {b : Int} {su : Nat → Nat → Bool} {p : Nat} (hp : p < G.own.length) : (plL G b su)[p]? = some (plF G b su p) := by simp [plL, hp]
theorem plL_len (G : Gm) (b : Int) (su : Nat → Nat → Bool) : (plL G b su).length = G.own.length := by simp [plL]
/-- What the lists hold at a place, read off. -/
theorem plan_at {G : Gm} {goal p : Nat} (H : Ok G) (hg : goal < 2 ^ G.own.length) (hp : p < G.own.length) {x y r : Int} (hx : (plL G 0 (suP (rkL G goal)))[p]? = some x) (hy : (plL G 1 (suF (rkL G goal)))[p]? = some y) (hr : (rkL G goal)[p]? = some r) {dw : Int} (hw : G.own[p]? = some dw) :
    (dw = 0 ∧ 0 < r ∧ y = -1 ∧ ∃ (t : Nat) (rt : Int), x = (t : Int) ∧ t < G.own.length ∧ (t : Int) ∈ G.row p ∧ (rkL G goal)[t]? = some rt ∧ 0 ≤ rt ∧ rt < r) ∨ (dw = 0 ∧ r ≤ 0 ∧ x = -1 ∧ y = -1) ∨
    (dw = 1 ∧ r < 0 ∧ x = -1 ∧ ∃ (t : Nat) (rt : Int), y = (t : Int) ∧ t < G.own.length ∧ (t : Int) ∈ G.row p ∧ (rkL G goal)[t]? = some rt ∧ rt < 0) ∨ (dw = 1 ∧ 0 ≤ r ∧ x = -1 ∧ y = -1) := by
  rw [plL_at hp] at hx hy
  rw [rkL_at hp] at hr
  obtain rfl := Option.some.inj hx
  obtain rfl := Option.some.inj hy
  obtain rfl := Option.some.inj hr
  have hwho := who_at hw
  have h01 := H.who hp
  rw [hwho] at h01
  rcases h01 with rfl | rfl
  · by_cases h : 0 < rkI G goal p
    · obtain ⟨t, h1, h2, h3, h4, h5⟩ := man_yes H hg hp hwho h
      exact .inl ⟨rfl, h, duck_no H hp (by rw [hwho]; omega), t, _, h1, h2, h3, rkL_at h2, h4, h5⟩
    · exact .inr (.inl ⟨rfl, by omega, man_no H hp (by omega), duck_no H hp (by rw [hwho]; omega)⟩)
  · by_cases h : rkI G goal p < 0
    · obtain ⟨t, h1, h2, h3, h4⟩ := duck_yes H hg hp hwho h
      exact .inr (.inr (.inl ⟨rfl, h, man_no H hp (by rw [hwho]; omega), t, _, h1, h2, h3, rkL_at h2, h4⟩))
    · exact .inr (.inr (.inr ⟨rfl, by omega, man_no H hp (by rw [hwho]; omega), duck_no H hp (by omega)⟩))
end Go.Proofs.Ytibcjkpfpiamkab
namespace Go.Proofs.Ytibcjkpfpiamkab
open Go.RowKit
set_option linter.unusedVariables false

def ixF (x : Int) (L : List Int) : Int := match L.findIdx? fun d => decide (d = x) with
  | some i => (i : Int)
  | none => -1
theorem ix_hit {x : Int} {L : List Int} {k : Nat} (hd : L[k]? = some x) (ha : ∀ (j : Nat) e, j < k → L[j]? = some e → ¬ e = x) : ixF x L = (k : Int) := by
  obtain ⟨hk, he⟩ := List.getElem?_eq_some_iff.1 hd
  have : L.findIdx? (fun d => decide (d = x)) = some k := by
    rw [List.findIdx?_eq_some_iff_getElem]
    refine ⟨hk, by rw [he]; simp, fun j hj => ?_⟩
    have := ha j _ hj (List.getElem?_eq_getElem (by omega))
    simpa using this
  unfold ixF
  rw [this]
theorem ix_none {x : Int} {L : List Int} (ha : ∀ (j : Nat) e, j < L.length → L[j]? = some e → ¬ e = x) : ixF x L = -1 := by
  have : L.findIdx? (fun d => decide (d = x)) = none := by
    rw [List.findIdx?_eq_none_iff]
    intro y hy
    obtain ⟨j, hj, he⟩ := List.getElem_of_mem hy
    have := ha j y hj (by rw [← he]; exact List.getElem?_eq_getElem hj)
    simpa using this
  unfold ixF
  rw [this]
theorem ix_mem (x : Int) (L : List Int) : decide (0 ≤ ixF x L) = decide (x ∈ L) := by
  unfold ixF
  cases h : L.findIdx? fun d => decide (d = x) with
  | none =>
    rw [List.findIdx?_eq_none_iff] at h
    rw [decide_eq_false (show ¬ (0 : Int) ≤ -1 by omega), eq_comm, decide_eq_false_iff_not]
    intro hm
    have := h x hm
    simp at this
  | some i =>
    rw [List.findIdx?_eq_some_iff_getElem] at h
    obtain ⟨hi, h1, _⟩ := h
    rw [decide_eq_true (show (0 : Int) ≤ (i : Int) by omega), eq_comm, decide_eq_true_eq]
    have : L[i] = x := by simpa using h1
    rw [← this]
    exact List.getElem_mem hi
theorem ne_next {x : Int} {R : List Int} {k : Nat} {d : Int} (hk : R[k]? = some d) (h : ¬ d = x) (ha : ∀ (j : Nat) e, j < k → R[j]? = some e → ¬ e = x) : ∀ (j : Nat) e, j < k + 1 → R[j]? = some e → ¬ e = x := fun j e hj he => by
  by_cases hjk : j = k
  · subst hjk
    obtain rfl := Option.some.inj (hk.symm.trans he)
    exact h
  · exact ha j e (by omega) he
set_option maxRecDepth 4000 in
theorem Index_any (A : Option Addr) (c : Nat) (L : List Int) (x : Int) (w : World) (hr : Rd w w.heap.size A (ints L)) (hl : L.length ≤ 9223372036854775807) :
    Calls Try.prog 47 #[.slice A L.length c, .int .i64 x] w fun e w' => e = .returned (.int .i64 (ixF x L)) ∧ w = w' := by
  have HR := Lib.hid hr
  have HH := Lib.hid (fun k hd ha => ix_hit (x := x) (L := L) (k := k) hd ha)
  have HN := Lib.hid (fun ha => ix_none (x := x) (L := L) ha)
  clear hr
  go_enter Try.func47, Try.ntmps47
  go_wp2
  go_loop [8] (fun i => ∃ k : Nat, k ≤ L.length ∧ i = .int .i64 k ∧ ∀ (j : Nat) e, j < k → L[j]? = some e → ¬ e = x) (fun i => L.length - (intOf i).toNat)
  case atStart => exact ⟨0, by omega, rfl, fun j e hj => by omega⟩
  case round =>
    obtain ⟨k, hk, rfl, hall⟩ := hrel
    have HA := Lib.hid hall
    clear hall
    by_cases hlt : k < L.length
    · obtain ⟨b, o, d, rfl, hd, hc⟩ := HR.out.int k hlt
      by_cases hp : d = x
      · subst hp
        have HX := Lib.hid (HH.out k hd.out HA.out)
        have e1 : (d == d) = true := beq_self_eq_true d
        go_wp2_with fail
        go_ret
        exact ⟨by rw [HX.out]; rfl, rfl⟩
      · have HX := Lib.hid (ne_next hd.out hp HA.out)
        have e1 : (x == d) = false := by rw [beq_eq_false_iff_ne]; exact fun h => hp h.symm
        clear hp
        go_wp2_with fail
        go_round
        case rel => exact ⟨k + 1, by omega, by go_num, HX.out⟩
        case measure => simp [intOf]; omega
    · have hks : k = L.length := by omega
      subst hks
      have HX := Lib.hid (HN.out HA.out)
      go_wp2_with fail
      go_ret
      exact ⟨by rw [HX.out]; rfl, rfl⟩
theorem Contains_any (A : Option Addr) (c : Nat) (L : List Int) (x : Int) (w : World) (hr : Rd w w.heap.size A (ints L)) (hl : L.length ≤ 9223372036854775807) :
    Calls Try.prog 46 #[.slice A L.length c, .int .i64 x] w fun e w' => e = .returned (.bool (decide (x ∈ L))) ∧ w = w' := by
  have H := Lib.hid (Index_any A c L x w hr hl)
  have hm := ix_mem x L
  generalize ixF x L = I at *
  generalize decide (x ∈ L) = B at *
  go_enter Try.func46, Try.ntmps46
  go_wp2_with fail
  refine (H.out).mono ?_
  rintro e w' ⟨rfl, rfl⟩
  go_wp2_with fail
  go_ret
  exact ⟨by first | rfl | rw [hm], rfl⟩
def moveF (L : List Int) (x : Int) : Int := if x ∈ L then x else L.getD 0 0
theorem move_any (A : Option Addr) (c : Nat) (L : List Int) (x : Int) (w : World) (hr : Rd w w.heap.size A (ints L)) (hl : L.length ≤ 9223372036854775807) (h0 : 0 < L.length) :
    Calls Try.prog 38 #[.slice A L.length c, .int .i64 x] w fun e w' => e = .returned (.int .i64 (moveF L x)) ∧ w = w' := by
  have H := Lib.hid (Contains_any A c L x w hr hl)
  obtain ⟨b, o, d, rfl, hd, hc⟩ := hr.int 0 h0
  by_cases hx : x ∈ L
  · have HE := Lib.hid (show moveF L x = x from if_pos hx)
    rw [decide_eq_true hx] at H
    clear hr hx
    go_enter Try.func38, Try.ntmps38
    go_wp2_with fail
    refine (H.out).mono ?_
    rintro e w' ⟨rfl, rfl⟩
    go_wp2_with fail
    go_ret
    exact ⟨by rw [HE.out]; rfl, rfl⟩
  · have HE := Lib.hid (show moveF L x = d by unfold moveF; rw [if_neg hx, getD_at hd.out])
    rw [decide_eq_false hx] at H
    rw [Nat.add_zero] at hc
    have h1 : (0 : Int) < (L.length : Int) := by omega
    clear hr hx
    go_enter Try.func38, Try.ntmps38
    go_wp2_with fail
    refine (H.out).mono ?_
    rintro e w' ⟨rfl, rfl⟩
    go_wp2_with fail
    go_ret
    exact ⟨by rw [HE.out]; rfl, rfl⟩
theorem isPlan_any (g : Gv) (A : Option Addr) (c : Nat) (L : List Int) (w : World) (hr : RdG w w.heap.size g) :
    Calls Try.prog 35 #[g.v, .slice A L.length c] w fun e w' => e = .returned (.bool (decide (L.length = g.own.length))) ∧ Below w.heap.size w w' := by
  obtain ⟨W, hW, p0, p1, hz, hb, hr1⟩ := box_game w g 25 hr
  have B0 := Lib.hid hb
  obtain ⟨A0, c0, own, A1, c1, rs⟩ := g
  unfold Gv.v
  simp only at hW p0 p1 ⊢
  clear hr hb hr1
  by_cases h : L.length = own.length
  · have e1 : ((L.length : Int) == (own.length : Int)) = true := by rw [beq_iff_eq]; omega
    have e2 : (L.length == own.length) = true := by rw [beq_iff_eq]; exact h
    rw [decide_eq_true h]
    clear h
    go_enter Try.func35, Try.ntmps35
    go_wp2_with fail
    go_ret
    exact ⟨rfl, B0.out⟩
  · have e1 : ((L.length : Int) == (own.length : Int)) = false := by rw [beq_eq_false_iff_ne]; omega
    have e2 : (L.length == own.length) = false := by rw [beq_eq_false_iff_ne]; exact h
    rw [decide_eq_false h]
    clear h
    go_enter Try.func35, Try.ntmps35
    go_wp2_with fail
    go_ret
    exact ⟨rfl, B0.out⟩
theorem isPlace_any (g : Gv) (p : Int) (w : World) (hr : RdG w w.heap.size g) :
    Calls Try.prog 36 #[g.v, .int .i64 p] w fun e w' => e = .returned (.bool (inW 0 ((g.own.length : Int) - 1) p)) ∧ Below w.heap.size w w' := by
  obtain ⟨W, hW, p0, p1, hz, hb, hr1⟩ := box_game w g 25 hr
  have B0 := Lib.hid hb
  obtain ⟨A0, c0, own, A1, c1, rs⟩ := g
  unfold Gv.v
  simp only at hW p0 p1 ⊢
  clear hr hb hr1
  by_cases h0 : 0 ≤ p
  · have e0 : decide (0 ≤ p) = true := by simpa using h0
    by_cases h1 : p < (own.length : Int)
    · have e1 : decide (p < (own.length : Int)) = true := by simpa using h1
      rw [show inW 0 ((own.length : Int) - 1) p = true from inW_iff.2 ⟨h0, by omega⟩]
      clear h0 h1
      go_enter Try.func36, Try.ntmps36
      go_wp2_with fail
      go_ret
      exact ⟨rfl, B0.out⟩
    · have e1 : decide (p < (own.length : Int)) = false := by simpa using h1
      rw [show inW 0 ((own.length : Int) - 1) p = false from inW_no (by omega)]
      clear h0 h1
      go_enter Try.func36, Try.ntmps36
      go_wp2_with fail
      go_ret
      exact ⟨rfl, B0.out⟩
  · have e0 : decide (0 ≤ p) = false := by simpa using h0
    rw [show inW 0 ((own.length : Int) - 1) p = false from inW_no (by omega)]
    clear h0
    go_enter Try.func36, Try.ntmps36
    go_wp2_with fail
    go_ret
    exact ⟨rfl, B0.out⟩

/-! ### Where a game goes -/
def nxF (G : Gm) (man ducks : List Int) (p : Nat) : Int := moveF (G.row p) (if G.who p = 1 then ducks.getD p 0 else man.getD p 0)
def posN (G : Gm) (man ducks : List Int) (f : Nat) : Nat → Nat
  | 0 => f
  | k + 1 => (nxF G man ducks (posN G man ducks f k)).toNat
def wayK (G : Gm) (man ducks : List Int) (f k : Nat) : List Int := (List.range (k + 1)).map fun j => (posN G man ducks f j : Int)
theorem wayK_len (G : Gm) (man ducks : List Int) (f k : Nat) : (wayK G man ducks f k).length = k + 1 := by simp [wayK]
theorem wayK_next (G : Gm) (man ducks : List Int) (f k : Nat) : wayK G man ducks f (k + 1) = wayK G man ducks f k ++ [(posN G man ducks f (k + 1) : Int)] := by
  unfold wayK
  rw [List.range_succ (n := k + 1), List.map_append]
  rfl
theorem wayK_zero (G : Gm) (man ducks : List Int) (f : Nat) : wayK G man ducks f 0 = [(f : Int)] := rfl
theorem move_in {L : List Int} {x : Int} (h : 0 < L.length) : moveF L x ∈ L := by
  unfold moveF
  split
  · assumption
  · rw [List.getD_eq_getElem?_getD, List.getElem?_eq_getElem h]
    exact List.getElem_mem h
theorem nx_in {G : Gm} (H : Ok G) {man ducks : List Int} {p : Nat} (hp : p < G.own.length) : nxF G man ducks p ∈ G.row p := move_in (H.ne hp)
theorem nx_nat {G : Gm} (H : Ok G) {man ducks : List Int} {p : Nat} (hp : p < G.own.length) : nxF G man ducks p = ((nxF G man ducks p).toNat : Int) ∧ (nxF G man ducks p).toNat < G.own.length := by
  have := H.mem hp (nx_in H (man := man) (ducks := ducks) hp)
  omega
theorem pos_lt {G : Gm} (H : Ok G) {man ducks : List Int} {f : Nat} (hf : f < G.own.length) : ∀ k, posN G man ducks f k < G.own.length
  | 0 => hf
  | k + 1 => (nx_nat H (pos_lt H hf k)).2
def plyB (G : Gm) (man ducks : List Int) (f m : Int) : Bool := decide (man.length = G.own.length) && (decide (ducks.length = G.own.length) && (inW 0 ((G.own.length : Int) - 1) f && inW 0 100 m))
def plyE (G : Gm) (man ducks : List Int) (f m : Int) : Int := if gE G = 0 then (if plyB G man ducks f m = true then 0 else 1) else gE G
def plyL (G : Gm) (man ducks : List Int) (f m : Int) : List Int := if plyE G man ducks f m = 0 then wayK G man ducks f.toNat m.toNat else []
theorem ply_ok {G : Gm} {man ducks : List Int} {f m : Int} (h : plyE G man ducks f m = 0) : gE G = 0 ∧ man.length = G.own.length ∧ ducks.length = G.own.length ∧ (0 ≤ f ∧ f.toNat < G.own.length) ∧ (0 ≤ m ∧ m ≤ 100) := by
  unfold plyE at h
  split at h
  · rename_i h1
    split at h
    · rename_i h2
      unfold plyB at h2
      rw [Bool.and_eq_true, Bool.and_eq_true, Bool.and_eq_true, decide_eq_true_eq, decide_eq_true_eq, inW_iff, inW_iff] at h2
      exact ⟨h1, h2.1, h2.2.1, by omega, h2.2.2.2⟩
    · cases h
  · contradiction
theorem ply_bad {G : Gm} {man ducks : List Int} {f m : Int} (h : ¬ gE G = 0) : plyE G man ducks f m = gE G := if_neg h
theorem ply_val {G : Gm} {man ducks : List Int} {f m : Int} (h : gE G = 0) : plyE G man ducks f m = (if plyB G man ducks f m = true then 0 else 1) := if_pos h
end Go.Proofs.Ytibcjkpfpiamkab
namespace Go.Proofs.Ytibcjkpfpiamkab
open Go.RowKit
set_option linter.unusedVariables false

theorem own_one (w : World) {B : Nat} (u : Value) (e : TypeId) (hB : B ≤ w.heap.size) (hu : u.oneCell' = true) : (w.alloc (.cells #[u] e)).ownsRow B e 1 (.slice (some ⟨w.heap.size, 0, none⟩) 1 1) 1 [u] := by
  exact World.ownsRow_lit (base := B) (e := e) (size := 1) w #[u] 1 hB (by decide) rfl
set_option maxRecDepth 4000 in
set_option maxHeartbeats 3200000 in
theorem Play_any (g : Gv) (A : Option Addr) (c : Nat) (man : List Int) (A2 : Option Addr) (c2 : Nat) (ducks : List Int) (f m : Int) (w : World) (hr : RdG w w.heap.size g) (hf : Gfit g) (hq : Rd w w.heap.size A (ints man)) (hq2 : Rd w w.heap.size A2 (ints ducks)) :
    Calls Try.prog 14 #[g.v, .slice A man.length c, .slice A2 ducks.length c2, .int .i64 f, .int .i64 m] w (MadeIE w (plyL g.G man ducks f m) (plyE g.G man ducks f m)) := by
  obtain ⟨W, hW, p0, p1, hz, hb, hr1⟩ := box_game w g 25 hr
  have R0 := Lib.hid (hq.up hb)
  have S0 := Lib.hid (hq2.up hb)
  have RG0 := Lib.hid hr1
  have B0 := Lib.hid hb
  have HV := Lib.hid (fun w h => Validate_any g w h hf)
  by_cases hE : gE g.G = 0
  · rw [hE] at HV
    have HP1 := Lib.hid (fun w h => isPlan_any g A c man w h)
    have HP2 := Lib.hid (fun w h => isPlan_any g A2 c2 ducks w h)
    have HP3 := Lib.hid (fun w h => isPlace_any g f w h)
    have HP4 := Lib.hid (fun w => isMoves_any m w)
    have HVal := Lib.hid (ply_val (man := man) (ducks := ducks) (f := f) (m := m) hE)
    by_cases hB : plyB g.G man ducks f m = true
    · have e0 : plyE g.G man ducks f m = 0 := by rw [ply_val hE, if_pos hB]
      obtain ⟨_, hl1, hl2, hfr, hmv⟩ := ply_ok e0
      have e1 : plyL g.G man ducks f m = wayK g.G man ducks f.toNat m.toNat := if_pos e0
      rw [e0, e1]
      have eo : g.G.own = g.own := rfl
      rw [eo] at hl1 hl2 hfr
      rw [decide_eq_true hl1] at HP1
      rw [decide_eq_true hl2] at HP2
      rw [show inW 0 ((g.own.length : Int) - 1) f = true from inW_iff.2 ⟨hfr.1, by omega⟩] at HP3
      rw [show inW 0 100 m = true from inW_iff.2 hmv] at HP4
      obtain ⟨fn, rfl⟩ := Int.eq_ofNat_of_zero_le hfr.1
      obtain ⟨mn, rfl⟩ := Int.eq_ofNat_of_zero_le hmv.1
      rw [Int.toNat_natCast] at hfr
      rw [Int.toNat_natCast, Int.toNat_natCast]
      have hfl : fn < g.own.length := hfr.2
      have hml : mn ≤ 100 := by omega
      obtain ⟨W', hl⟩ := laid_of w g hr hf hE
      obtain rfl : W' = W := hl.hW.symm.trans hW
      have LA := Lib.hid hl
      have H := gE_zero hE
      have HPos := Lib.hid (fun k => pos_lt H (man := man) (ducks := ducks) (f := fn) hfl k)
      have HNat := Lib.hid (fun p (hp : p < g.own.length) => (nx_nat H (man := man) (ducks := ducks) (p := p) hp).1)
      have HNe := Lib.hid (fun p (hp : p < g.own.length) => H.ne (p := p) hp)
      have HWN := Lib.hid (fun k => wayK_next g.G man ducks fn k)
      have HWL := Lib.hid (fun k => wayK_len g.G man ducks fn k)
      have HL1 := Lib.hid hl1
      have HL2 := Lib.hid hl2
      rw [eo] at HPos
      clear hr hf hq hq2 hb hr1 hE HVal hB e0 e1 eo hl H hfr hmv hl1 hl2
      unfold Gv.v at HV HP1 HP2 HP3 ⊢
      generalize g.G = G at *
      obtain ⟨A0, c0, own, A1, c1, rs⟩ := g
      simp only at hW p0 p1 HV HP1 HP2 HP3 HPos HNat HNe HL1 HL2 hfl LA ⊢
      have hn16 := LA.out.le
      go_enter Try.func14, Try.ntmps14
      go_wp2_with fail
      refine (HV.out _ RG0.out).mono ?_
      rintro e w1 ⟨rfl, hb⟩
      have B1 := Lib.hid (B0.out.trans (hb.mono B0.out.size))
      have RG1 := Lib.hid (RG0.out.up hb)
      have R1 := Lib.hid (R0.out.up hb)
      have S1 := Lib.hid (S0.out.up hb)
      have a1 := cell_keep p0 hb hz
      have d1 := cell_keep p1 hb hz
      have z1 : w.heap.size < w1.heap.size := Nat.lt_of_lt_of_le hz hb.size
      clear hb p0 p1 hW
      go_wp2_with fail
      refine (HP1.out w1 RG1.out).mono ?_
      rintro e w2 ⟨rfl, hb⟩
      have B2 := Lib.hid (B1.out.trans (hb.mono B1.out.size))
      have RG2 := Lib.hid (RG1.out.up hb)
      have R2 := Lib.hid (R1.out.up hb)
      have S2 := Lib.hid (S1.out.up hb)
      have a2 := cell_keep a1 hb z1
      have d2 := cell_keep d1 hb z1
      have z2 : w.heap.size < w2.heap.size := Nat.lt_of_lt_of_le z1 hb.size
      clear hb a1 d1 z1
      go_wp2_with fail
      refine (HP2.out w2 RG2.out).mono ?_
      rintro e w3 ⟨rfl, hb⟩
      have B3 := Lib.hid (B2.out.trans (hb.mono B2.out.size))
      have RG3 := Lib.hid (RG2.out.up hb)
      have R3 := Lib.hid (R2.out.up hb)
      have S3 := Lib.hid (S2.out.up hb)
      have a3 := cell_keep a2 hb z2
      have d3 := cell_keep d2 hb z2
      have z3 : w.heap.size < w3.heap.size := Nat.lt_of_lt_of_le z2 hb.size
      clear hb a2 d2 z2
      go_wp2_with fail
      refine (HP3.out w3 RG3.out).mono ?_
      rintro e w4 ⟨rfl, hb⟩
      have B4 := Lib.hid (B3.out.trans (hb.mono B3.out.size))
      have RG4 := Lib.hid (RG3.out.up hb)
      have R4 := Lib.hid (R3.out.up hb)
      have S4 := Lib.hid (S3.out.up hb)
      have a4 := cell_keep a3 hb z3
      have d4 := cell_keep d3 hb z3
      have z4 : w.heap.size < w4.heap.size := Nat.lt_of_lt_of_le z3 hb.size
      clear hb a3 d3 z3
      go_wp2_with fail
      refine (HP4.out w4).mono ?_
      rintro e w' ⟨rfl, rfl⟩
      obtain ⟨w5, hw5, k5, s5, b5⟩ := one_blk w4 #[.slice A man.length c, .slice A2 ducks.length c2] 55
      have RG5 := Lib.hid (RG4.out.up b5)
      have R5 := Lib.hid (R4.out.up b5)
      have S5 := Lib.hid (S4.out.up b5)
      have a5 := cell_keep a4 b5 z4
      have d5 := cell_keep d4 b5 z4
      have z5 : w.heap.size < w5.heap.size := Nat.lt_of_lt_of_le z4 b5.size
      have k50 : w5.cell? ⟨w4.heap.size, 0, none⟩ = some (.slice A man.length c) := by rw [blk_cell k5]; rfl
      have k51 : w5.cell? ⟨w4.heap.size, 1, none⟩ = some (.slice A2 ducks.length c2) := by rw [blk_cell k5]; rfl
      have B5 := Lib.hid (B4.out.trans (b5.mono B4.out.size))
      obtain ⟨w6, hw6, k6, s6, b6⟩ := one_blk w5 #[.int .i64 (fn : Int)] 3
      have A5 := Lib.hid a5
      have D5 := Lib.hid d5
      have K50 := Lib.hid k50
      have K51 := Lib.hid k51
      have Z5 := Lib.hid (And.intro z5 s5)
      have B6 := Lib.hid b6
      have O6 := Lib.hid (show w6.ownsRow w5.heap.size 3 1 (.slice (some ⟨w5.heap.size, 0, none⟩) 1 1) 1 (ints (wayK G man ducks fn 0)) by rw [← hw6]; exact own_one w5 (.int .i64 (fn : Int)) 3 (Nat.le_refl _) rfl)
      clear a4 d4 z4 a5 d5 z5 k5 k6 b5 b6 s5 k50 k51
      go_wp2_with fail
      clear hw5 hw6 s6
      go_loopw [14, 15, 49] (fun at_ v i wr => ∃ (k : Nat) (A9 : Option Addr) (c9 : Nat), k ≤ mn ∧ i = .int .i64 k ∧ at_ = .int .i64 (posN G man ducks fn k : Nat) ∧ v = .slice A9 (k + 1 : Nat) c9 ∧ wr.ownsRow w5.heap.size 3 1 v (k + 1) (ints (wayK G man ducks fn k)) ∧ Below w5.heap.size w5 wr) (fun _ _ i _ => mn - (intOf i).toNat)
      case atStart => exact ⟨0, _, _, by omega, rfl, rfl, rfl, O6.out, B6.out⟩
      case round =>
        obtain ⟨k, A9, c9, hk, rfl, rfl, rfl, hown, hb⟩ := hrel
        have O := Lib.hid hown
        have BW := Lib.hid hb
        have t0 := cell_keep A5.out hb Z5.out.1
        have t1 := cell_keep D5.out hb Z5.out.1
        have tp0 := cell_keep K50.out hb Z5.out.2
        have tp1 := cell_keep K51.out hb Z5.out.2
        have RGr := Lib.hid (RG5.out.up hb)
        have Rr := Lib.hid (R5.out.up hb)
        have Sr := Lib.hid (S5.out.up hb)
        clear hown hb
        by_cases hlt : k < mn
        · have hp := HPos.out k
          have HNp := Lib.hid (HNat.out (posN G man ducks fn k) hp)
          have HNx := Lib.hid (show posN G man ducks fn (k + 1) = (nxF G man ducks (posN G man ducks fn k)).toNat from rfl)
          have HWk := Lib.hid (HWN.out k)
          have hne := HNe.out (posN G man ducks fn k) hp
          have HMd := Lib.hid (show nxF G man ducks (posN G man ducks fn k) = moveF (G.row (posN G man ducks fn k)) (if G.who (posN G man ducks fn k) = 1 then ducks.getD (posN G man ducks fn k) 0 else man.getD (posN G man ducks fn k) 0) from rfl)
          have hlw : (wayK G man ducks fn k).length = k + 1 := HWL.out k
          have HLw := Lib.hid hlw
          clear hlw
          obtain ⟨p1, hp1⟩ : ∃ p1, posN G man ducks fn (k + 1) = p1 := ⟨_, rfl⟩
          rw [hp1] at HNx HWk
          have HPP := Lib.hid hp1
          clear hp1
          generalize posN G man ducks fn k = p at *
          obtain ⟨bo, oo, dw, hA0, hdw, cw⟩ := RGr.out.o.int p hp
          obtain ⟨bm, om, A', c', l, hA1, hrow, cl, hl⟩ := RGr.out.r.row p (show p < rs.length by have := LA.out.len; omega)
          obtain ⟨bx, ox, x, hAx, hx, cx⟩ := Rr.out.int p (by have := HL1.out; omega)
          obtain ⟨by', oy, y, hAy, hy, cy⟩ := Sr.out.int p (by have := HL2.out; omega)
          simp only at hA0 hA1 hdw hrow
          subst hA0 hA1 hAx hAy
          have hll := LA.out.fit _ (List.mem_of_getElem? hrow.out)
          simp only at hll
          have hrw := LA.out.row p _ _ _ hrow.out
          have hwho := LA.out.who p dw hdw.out
          have hwG : G.who p = dw := who_at (by rw [LA.out.ho]; exact hdw.out)
          have f0 : (0 : Int) ≤ (p : Int) := by omega
          have f1 : (p : Int) < (own.length : Int) := by omega
          have f2 : (p : Int) < (rs.length : Int) := by have := LA.out.len; omega
          have f3 : (p : Int) < (man.length : Int) := by have := HL1.out; omega
          have f4 : (p : Int) < (ducks.length : Int) := by have := HL2.out; omega
          have hmd := HMd.out
          rw [hrw, hwG, getD_at hx.out, getD_at hy.out] at hmd
          rw [hrw] at hne
          have hlR := hl.out
          clear hrw hwG hp
          obtain ⟨N, hN⟩ : ∃ N, nxF G man ducks p = N := ⟨_, rfl⟩
          rw [hN] at hmd HNp HNx
          have HNI := Lib.hid (show N = (p1 : Int) by rw [HNx.out]; exact HNp.out)
          clear hN HMd HNp HNx
          rcases hwho with rfl | rfl
          · rw [if_neg (by decide)] at hmd
            have HQ := Lib.hid (fun w (h : Rd w w.heap.size A' (ints l)) => move_any A' c' l x w h hll hne)
            rw [← hmd, HNI.out] at HQ
            clear hmd hne hll
            go_wp2_with fail
            go_quiet ((go_at_call 38; exact qs0 (HQ.out _ hlR)))
            generalize hwq : wr.drewN nq = wq
            have Oq := Lib.hid (show wq.ownsRow w5.heap.size 3 1 (.slice A9 (k + 1 : Nat) c9) (k + 1) (ints (wayK G man ducks fn k)) by rw [← hwq]; exact O.out)
            have BQ := Lib.hid (show Below w5.heap.size w5 wq by rw [← hwq]; exact bdN BW.out _)
            clear hwq
            go_wp2_with (at_builtin; refine app Try.eInt rfl _ _ rfl rfl (Oq.out.alloc _) (BQ.out.alloc BQ.out.size _) (size_alloc' BQ.out.size _) rfl (Rd.one wq (.int .i64 (p1 : Int)) 3 (Nat.lt_succ_self _)) (by simp) (ints_one [(p1 : Int)]) (k + 1 + 1) rfl (by omega) ?_; intro A4 cc4 w8 o4 b4 _ _; have O4 := Lib.hid o4; have B4' := Lib.hid b4; clear o4 b4)
            go_roundw
            case rel => exact ⟨k + 1, A4, cc4, by omega, by go_num, by rw [HPP.out], rfl, by rw [HWk.out, ints_append]; exact O4.out, B4'.out⟩
            case measure => simp [intOf]; omega
          · rw [if_pos rfl] at hmd
            have HQ := Lib.hid (fun w (h : Rd w w.heap.size A' (ints l)) => move_any A' c' l y w h hll hne)
            rw [← hmd, HNI.out] at HQ
            clear hmd hne hll
            go_wp2_with fail
            go_quiet ((go_at_call 38; exact qs0 (HQ.out _ hlR)))
            generalize hwq : wr.drewN nq = wq
            have Oq := Lib.hid (show wq.ownsRow w5.heap.size 3 1 (.slice A9 (k + 1 : Nat) c9) (k + 1) (ints (wayK G man ducks fn k)) by rw [← hwq]; exact O.out)
            have BQ := Lib.hid (show Below w5.heap.size w5 wq by rw [← hwq]; exact bdN BW.out _)
            clear hwq
            go_wp2_with (at_builtin; refine app Try.eInt rfl _ _ rfl rfl (Oq.out.alloc _) (BQ.out.alloc BQ.out.size _) (size_alloc' BQ.out.size _) rfl (Rd.one wq (.int .i64 (p1 : Int)) 3 (Nat.lt_succ_self _)) (by simp) (ints_one [(p1 : Int)]) (k + 1 + 1) rfl (by omega) ?_; intro A4 cc4 w8 o4 b4 _ _; have O4 := Lib.hid o4; have B4' := Lib.hid b4; clear o4 b4)
            go_roundw
            case rel => exact ⟨k + 1, A4, cc4, by omega, by go_num, by rw [HPP.out], rfl, by rw [HWk.out, ints_append]; exact O4.out, B4'.out⟩
            case measure => simp [intOf]; omega
        · have hks : k = mn := by omega
          subst hks
          have hown := O.out
          obtain ⟨A8, c8, he, hc8⟩ := own_form hown
          have hc : k + 1 ≤ c9 := by injection he with h1 h2 h3; omega
          clear hown he
          go_wp2_with fail
          go_ret2
          exact ⟨A9, c9, by rw [HWL.out]; rfl, by rw [HWL.out]; exact hc, own_fresh O.out B5.out.size, Rd.of_own O.out, B5.out.trans (BW.out.mono B5.out.size)⟩
    · have e0 : plyE g.G man ducks f m = 1 := by rw [ply_val hE, if_neg hB]
      have e1 : plyL g.G man ducks f m = [] := by unfold plyL; rw [if_neg (by rw [e0]; decide)]
      rw [e0, e1]
      have eo : g.G.own = g.own := rfl
      unfold plyB at hB
      rw [eo] at hB
      clear hr hf hq hq2 hb hr1 hE HVal e0 e1 eo
      unfold Gv.v at HV HP1 HP2 HP3 ⊢
      generalize g.G = G at *
      obtain ⟨A0, c0, own, A1, c1, rs⟩ := g
      simp only at hW p0 p1 HV HP1 HP2 HP3 hB ⊢
      generalize decide (man.length = own.length) = x1 at *
      generalize decide (ducks.length = own.length) = x2 at *
      generalize inW 0 ((own.length : Int) - 1) f = x3 at *
      generalize inW 0 100 m = x4 at *
      cases x1
      · go_enter Try.func14, Try.ntmps14
        go_wp2_with fail
        refine (HV.out W RG0.out).mono ?_
        rintro e w1 ⟨rfl, hb⟩
        have B1 := Lib.hid (B0.out.trans (hb.mono B0.out.size))
        have RG1 := Lib.hid (RG0.out.up hb)
        have a1 := cell_keep p0 hb hz
        have d1 := cell_keep p1 hb hz
        clear hb p0 p1 hW
        go_wp2_with fail
        refine (HP1.out w1 RG1.out).mono ?_
        rintro e w2 ⟨rfl, hb⟩
        have B2 := Lib.hid (B1.out.trans (hb.mono B1.out.size))
        clear hb
        go_wp2_with fail
        go_ret2
        exact ⟨none, 0, rfl, by decide, fresh_nil w, .inl rfl, B2.out⟩
      · cases x2
        · go_enter Try.func14, Try.ntmps14
          go_wp2_with fail
          refine (HV.out W RG0.out).mono ?_
          rintro e w1 ⟨rfl, hb⟩
          have B1 := Lib.hid (B0.out.trans (hb.mono B0.out.size))
          have RG1 := Lib.hid (RG0.out.up hb)
          have a1 := cell_keep p0 hb hz
          have d1 := cell_keep p1 hb hz
          have z1 : w.heap.size < w1.heap.size := Nat.lt_of_lt_of_le hz hb.size
          clear hb p0 p1 hW
          go_wp2_with fail
          refine (HP1.out w1 RG1.out).mono ?_
          rintro e w2 ⟨rfl, hb⟩
          have B2 := Lib.hid (B1.out.trans (hb.mono B1.out.size))
          have RG2 := Lib.hid (RG1.out.up hb)
          have a2 := cell_keep a1 hb z1
          have d2 := cell_keep d1 hb z1
          have z2 : w.heap.size < w2.heap.size := Nat.lt_of_lt_of_le z1 hb.size
          clear hb a1 d1 z1
          go_wp2_with fail
          refine (HP2.out w2 RG2.out).mono ?_
          rintro e w3 ⟨rfl, hb⟩
          have B3 := Lib.hid (B2.out.trans (hb.mono B2.out.size))
          clear hb
          go_wp2_with fail
          go_ret2
          exact ⟨none, 0, rfl, by decide, fresh_nil w, .inl rfl, B3.out⟩
        · cases x3
          · go_enter Try.func14, Try.ntmps14
            go_wp2_with fail
            refine (HV.out W RG0.out).mono ?_
            rintro e w1 ⟨rfl, hb⟩
            have B1 := Lib.hid (B0.out.trans (hb.mono B0.out.size))
            have RG1 := Lib.hid (RG0.out.up hb)
            have a1 := cell_keep p0 hb hz
            have d1 := cell_keep p1 hb hz
            have z1 : w.heap.size < w1.heap.size := Nat.lt_of_lt_of_le hz hb.size
            clear hb p0 p1 hW
            go_wp2_with fail
            refine (HP1.out w1 RG1.out).mono ?_
            rintro e w2 ⟨rfl, hb⟩
            have B2 := Lib.hid (B1.out.trans (hb.mono B1.out.size))
            have RG2 := Lib.hid (RG1.out.up hb)
            have a2 := cell_keep a1 hb z1
            have d2 := cell_keep d1 hb z1
            have z2 : w.heap.size < w2.heap.size := Nat.lt_of_lt_of_le z1 hb.size
            clear hb a1 d1 z1
            go_wp2_with fail
            refine (HP2.out w2 RG2.out).mono ?_
            rintro e w3 ⟨rfl, hb⟩
            have B3 := Lib.hid (B2.out.trans (hb.mono B2.out.size))
            have RG3 := Lib.hid (RG2.out.up hb)
            have a3 := cell_keep a2 hb z2
            have d3 := cell_keep d2 hb z2
            have z3 : w.heap.size < w3.heap.size := Nat.lt_of_lt_of_le z2 hb.size
            clear hb a2 d2 z2
            go_wp2_with fail
            refine (HP3.out w3 RG3.out).mono ?_
            rintro e w4 ⟨rfl, hb⟩
            have B4 := Lib.hid (B3.out.trans (hb.mono B3.out.size))
            clear hb
            go_wp2_with fail
            go_ret2
            exact ⟨none, 0, rfl, by decide, fresh_nil w, .inl rfl, B4.out⟩
          · cases x4
            · go_enter Try.func14, Try.ntmps14
              go_wp2_with fail
              refine (HV.out W RG0.out).mono ?_
              rintro e w1 ⟨rfl, hb⟩
              have B1 := Lib.hid (B0.out.trans (hb.mono B0.out.size))
              have RG1 := Lib.hid (RG0.out.up hb)
              have a1 := cell_keep p0 hb hz
              have d1 := cell_keep p1 hb hz
              have z1 : w.heap.size < w1.heap.size := Nat.lt_of_lt_of_le hz hb.size
              clear hb p0 p1 hW
              go_wp2_with fail
              refine (HP1.out w1 RG1.out).mono ?_
              rintro e w2 ⟨rfl, hb⟩
              have B2 := Lib.hid (B1.out.trans (hb.mono B1.out.size))
              have RG2 := Lib.hid (RG1.out.up hb)
              have a2 := cell_keep a1 hb z1
              have d2 := cell_keep d1 hb z1
              have z2 : w.heap.size < w2.heap.size := Nat.lt_of_lt_of_le z1 hb.size
              clear hb a1 d1 z1
              go_wp2_with fail
              refine (HP2.out w2 RG2.out).mono ?_
              rintro e w3 ⟨rfl, hb⟩
              have B3 := Lib.hid (B2.out.trans (hb.mono B2.out.size))
              have RG3 := Lib.hid (RG2.out.up hb)
              have a3 := cell_keep a2 hb z2
              have d3 := cell_keep d2 hb z2
              have z3 : w.heap.size < w3.heap.size := Nat.lt_of_lt_of_le z2 hb.size
              clear hb a2 d2 z2
              go_wp2_with fail
              refine (HP3.out w3 RG3.out).mono ?_
              rintro e w4 ⟨rfl, hb⟩
              have B4 := Lib.hid (B3.out.trans (hb.mono B3.out.size))
              clear hb
              go_wp2_with fail
              refine (HP4.out w4).mono ?_
              rintro e w' ⟨rfl, rfl⟩
              go_wp2_with fail
              go_ret2
              exact ⟨none, 0, rfl, by decide, fresh_nil w, .inl rfl, B4.out⟩
            · exact absurd rfl hB
  · have e0 : plyE g.G man ducks f m = gE g.G := ply_bad hE
    have e1 : plyL g.G man ducks f m = [] := by unfold plyL; rw [if_neg (by rw [e0]; exact hE)]
    rw [e0, e1]
    generalize gE g.G = E at *
    have hb1 : (E == 0) = false := by simpa using hE
    have hb2' : (E != 0) = true := by simpa using hE
    clear hr hf hq hq2 hb hr1 hE e0 e1
    unfold Gv.v at HV ⊢
    generalize g.G = G at *
    obtain ⟨A0, c0, own, A1, c1, rs⟩ := g
    simp only at hW p0 p1 HV ⊢
    go_enter Try.func14, Try.ntmps14
    go_wp2_with fail
    refine (HV.out W RG0.out).mono ?_
    rintro e w3 ⟨rfl, hb⟩
    have B3 := Lib.hid (B0.out.trans (hb.mono B0.out.size))
    clear hb
    go_wp2_with fail
    go_ret2
    exact ⟨none, 0, rfl, by decide, fresh_nil w, .inl rfl, B3.out⟩
end Go.Proofs.Ytibcjkpfpiamkab

/-
  Equations are solved: the walk of solve (a jump back to a label). Condition: what the numbers are at each step is told ahead (SOK).
-/
import Derived.Test.YtegehfcnclpdeaaFwr
import Derived.WalkMore
import Derived.ScopeJumps
import Derived.Deep.RegionLaw
namespace Go.Proofs.Ytegehfcnclpdeaa
open Go.RowKit
set_option linter.unusedVariables false

/-- One number is left out of all other equations. -/
def jstep (M : Nat → Nat → Int) (k m : Nat) : Nat → Nat → Int := fun i => if i = k then M k else elimF (M i) (M k) k (m + 1)
def jit (M : Nat → Nat → Int) (m : Nat) : Nat → Nat → Nat → Int
  | 0 => M
  | k + 1 => jstep (jit M m k) k m
def jpart (M : Nat → Nat → Int) (k m j : Nat) : Nat → Nat → Int := fun i => if i < j then jstep M k m i else M i
/-- All goes well at each step. -/
structure SOK (M : Nat → Nat → Int) (m : Nat) : Prop where
  sm : ∀ k i p, k ≤ m → i < m → Sm (jit M m k i p)
  nz : ∀ k i, k < m → i < m → i ≠ k → gcdF (rawF (jit M m k i) (jit M m k k) k) (m + 1) ≠ 0
  dg : ∀ i, i < m → jit M m m i i ≠ 0
/-- The equations as they lie. -/
def EqM (w : World) (g0 m : Nat) (M : Nat → Nat → Int) : Prop :=
  ∃ (G C : Nat → Nat) (cur : Array Value), w.heap[g0]? = some (.cells cur 96 (0, 0)) ∧ (∀ k, k < m → cur[k]? = some (.slice (some ⟨G k, 0, none⟩) (m + 1) (C k))) ∧ ∀ k, k < m → w.heap[G k]? = some (.cells (ints (rowF (M k) (m + 1))).toArray 3 (0, 0)) ∧ G k ≠ g0
theorem EqM.congr {w : World} {g0 m : Nat} {M M' : Nat → Nat → Int} (h : EqM w g0 m M) (he : ∀ i, i < m → M i = M' i) : EqM w g0 m M' := by
  obtain ⟨G, C, cur, h1, h2, h3⟩ := h
  exact ⟨G, C, cur, h1, h2, fun k hk => by rw [← he k hk]; exact h3 k hk⟩
theorem EqM.lt {w : World} {g0 m : Nat} {M : Nat → Nat → Int} (h : EqM w g0 m M) : g0 < w.heap.size := by
  obtain ⟨G, C, cur, h1, h2, h3⟩ := h
  exact lt_of_block' h1
theorem EqM.set {w w' : World} {g0 m i g c : Nat} {M : Nat → Nat → Int} {f : Nat → Int} (h : EqM w g0 m M) (hb : Below w.heap.size w w') (hi : i < m) (hg : w.heap.size ≤ g) (hr : w'.heap[g]? = some (.cells (ints (rowF f (m + 1))).toArray 3 (0, 0))) :
    EqM (w'.setCell ⟨g0, i, none⟩ (.slice (some ⟨g, 0, none⟩) (m + 1) c)) g0 m (fun p => if p = i then f else M p) := by
  have hlt := h.lt
  obtain ⟨G, C, cur, h1, h2, h3⟩ := h
  have h1' := (hb.block g0 hlt).trans h1
  refine ⟨fun p => if p = i then g else G p, fun p => if p = i then c else C p, cur.setIfInBounds i (.slice (some ⟨g, 0, none⟩) (m + 1) c), blk_set h1' i _, fun k hk => ?_, fun k hk => ?_⟩
  · have hks := (Array.getElem?_eq_some_iff.1 (h2 k hk)).1
    rw [Array.getElem?_setIfInBounds]
    by_cases e : i = k
    · subst e
      simp [hks]
    · have e' : ¬ k = i := fun e2 => e e2.symm
      rw [if_neg e]
      simp only [if_neg e']
      exact h2 k hk
  · by_cases e : k = i
    · subst e
      simp only [if_true]
      refine ⟨?_, by omega⟩
      exact (Below.heap_setCell _ _ _ g (by show g ≠ g0; omega)).trans hr
    · simp only [if_neg e]
      obtain ⟨h4, h5⟩ := h3 k hk
      refine ⟨?_, h5⟩
      exact (Below.heap_setCell _ _ _ (G k) h5).trans ((hb.block _ (lt_of_block' h4)).trans h4)
theorem EqM.drew {w : World} {g0 m : Nat} {M : Nat → Nat → Int} (h : EqM w g0 m M) : EqM w.drew g0 m M := h
theorem jpart_next (M : Nat → Nat → Int) (k m j : Nat) : jpart M k m (j + 1) = fun p => if p = j then jstep M k m j else jpart M k m j p := by
  funext p
  unfold jpart
  by_cases e : p = j
  · subst e
    rw [if_pos (Nat.lt_succ_self p), if_pos rfl]
  · rw [if_neg e]
    by_cases h : p < j
    · rw [if_pos h, if_pos (by omega)]
    · rw [if_neg h, if_neg (by omega)]
/-- The solutions, in pairs. -/
def solN (M : Nat → Nat → Int) (m i : Nat) : Int × Int := frZ (jit M m m i m) (jit M m m i i)
def solF (M : Nat → Nat → Int) (m p : Nat) : Int := if p % 2 = 0 then (solN M m (p / 2)).1 else (solN M m (p / 2)).2
theorem solF_0 (M : Nat → Nat → Int) (m i : Nat) : solF M m (i * 2) = (solN M m i).1 := by
  unfold solF
  rw [if_pos (by omega), show i * 2 / 2 = i by omega]
theorem solF_1 (M : Nat → Nat → Int) (m i : Nat) : solF M m (i * 2 + 1) = (solN M m i).2 := by
  unfold solF
  rw [if_neg (by omega), show (i * 2 + 1) / 2 = i by omega]
/-- The frame and the equations at the label. -/
def SlJ (B g0 c0 m : Nat) (M : Nat → Nat → Int) (w : World) (a : Act) (W : World) : Prop :=
  ∃ (k : Nat) (u1 u2 u4 u5 u6 u7 u8 u9 u10 u11 u12 u13 u14 u15 u16 u17 u18 u19 u20 u21 u22 u23 u24 u25 u26 u27 u28 u29 u30 u31 u32 u33 u34 u35 u36 u37 u38 u39 u40 u41 u42 u43 u44 u45 u46 u47 u48 u49 u50 u51 u52 u53 u54 u55 u56 u57 u58 u59 u60 : Value), a = { tmps := #[.slice (some ⟨g0, 0, none⟩) m c0, u1, u2, .int .i64 (k : Int), u4, u5, u6, u7, u8, u9, u10, u11, u12, u13, u14, u15, u16, u17, u18, u19, u20, u21, u22, u23, u24, u25, u26, u27, u28, u29, u30, u31, u32, u33, u34, u35, u36, u37, u38, u39, u40, u41, u42, u43, u44, u45, u46, u47, u48, u49, u50, u51, u52, u53, u54, u55, u56, u57, u58, u59, u60], defers := [] } ∧ k < m ∧ EqM W g0 m (jit M m k) ∧ Below B w W
theorem eRat : Elem Try.prog 59 29 (.agg #[.int .i64 0, .int .i64 0]) 2 16 := ⟨Try.underlying59, by kernel_rfl, rfl, by decide, by decide⟩
theorem made_zero2 (n : Nat) : (madeCells #[.int .i64 0, .int .i64 0] n).toList = ints (rowF (fun _ => 0) n) := by
  refine List.ext_getElem? fun j => ?_
  by_cases h : j < n
  · have h2 : j % 2 = 0 ∨ j % 2 = 1 := by omega
    rcases h2 with h2 | h2 <;> simp [madeCells, rowF, ints, h, h2]
  · simp [madeCells, rowF, ints, h]
theorem own_full2 {w : World} {base g n : Nat} {e : TypeId} {xs : List Value} (h : w.ownsRow base e 2 (.slice (some ⟨g, 0, none⟩) n n) n xs) : w.heap[g]? = some (.cells xs.toArray e (0, 0)) := by
  rcases h.2 with ⟨hv, _⟩ | ⟨g', cap, cur, hv, _, hg, _, _, hcs, htake⟩
  · cases hv
  · injection hv with h1 h2 h3
    injection h1 with h1
    injection h1 with h1
    subst h1; subst h3
    have : cur.toList = xs := by rw [← htake, List.take_of_length_le (by simp [hcs])]
    rw [← this]
    simpa using hg
theorem made_rats {w w1 : World} {n : Nat} (h : w1.ownsRow w.heap.size 29 2 (.slice (some ⟨w.heap.size, 0, none⟩) n n) n (madeCells (Value.agg #[.int .i64 0, .int .i64 0]).cells (n * 2)).toList) (hg : w.grownBy w1 none) :
    Below w.heap.size w w1 ∧ w1.heap[w.heap.size]? = some (.cells (ints (rowF (fun _ => 0) (n * 2))).toArray 29 (0, 0)) := by
  refine ⟨(Below.refl _ _).grown hg (Nat.le_refl _) (by simp), ?_⟩
  rw [← made_zero2]
  exact own_full2 h
/-- Two cells, stored anew. -/
theorem put2at {W : World} {g n j : Nat} {F : Nat → Int} {t : TypeId} (hj : j < n) (h : W.heap[g]? = some (.cells (ints (rowF (sofar F (j * 2)) (n * 2))).toArray t (0, 0))) {a b : Int} (ha : F (j * 2) = a) (hb : F (j * 2 + 1) = b) :
    W.cell? ⟨g, j * 2, none⟩ = some (.int .i64 (sofar F (j * 2) (j * 2))) ∧ W.frozen? ⟨g, j * 2, none⟩ = false ∧ (W.setCell ⟨g, j * 2, none⟩ (.int .i64 a)).cell? ⟨g, j * 2 + 1, none⟩ = some (.int .i64 (sofar F (j * 2 + 1) (j * 2 + 1))) ∧ (W.setCell ⟨g, j * 2, none⟩ (.int .i64 a)).frozen? ⟨g, j * 2 + 1, none⟩ = false ∧
    Hid (((W.setCell ⟨g, j * 2, none⟩ (.int .i64 a)).setCell ⟨g, j * 2 + 1, none⟩ (.int .i64 b)).heap[g]? = some (.cells (ints (rowF (sofar F ((j + 1) * 2)) (n * 2))).toArray t (0, 0))) := by
  have st : ∀ k, sofar F (k + 1) k = F k := fun k => by unfold sofar; rw [if_pos (Nat.lt_succ_self k)]
  have of : ∀ k p, p ≠ k → sofar F (k + 1) p = sofar F k p := fun k p hp => by unfold sofar; split <;> split <;> first | rfl | omega
  have h1 := blk_set h (j * 2) (.int .i64 a)
  rw [rowF_set (G := sofar F (j * 2 + 1)) (by rw [st, ha]) (of _)] at h1
  have h2 := blk_set h1 (j * 2 + 1) (.int .i64 b)
  rw [rowF_set (G := sofar F (j * 2 + 1 + 1)) (by rw [st, hb]) (of _)] at h2
  exact ⟨(blk_cell h).trans (rowF_at (by omega)), blk_free h _, (blk_cell h1).trans (rowF_at (by omega)), blk_free h1 _, Lib.hid (by rw [show (j + 1) * 2 = j * 2 + 1 + 1 from by omega]; exact h2)⟩
set_option maxRecDepth 16000 in
set_option maxHeartbeats 16000000 in
theorem solve_any (B g0 c0 m : Nat) (M : Nat → Nat → Int) (hm : m ≤ 50) (hm0 : 0 < m) (hok : SOK M m) (w : World) (hE : EqM w g0 m M) (hB : B ≤ g0) :
    Calls Try.prog 100 #[.slice (some ⟨g0, 0, none⟩) m c0] w fun e w' => ∃ A' c', e = .returned (.slice A' m c') ∧ Rd w' w'.heap.size A' (ints (rowF (solF M m) (m * 2))) ∧ Below B w w' := by
  have HOK := Lib.hid hok
  have HE := Lib.hid hE
  have hBw : B ≤ w.heap.size := by have := hE.lt; omega
  clear hok hE
  obtain ⟨i0, hi0, hz0, hz1, hz2⟩ := info_parts eRat.hi
  go_enter Try.func100, Try.ntmps100
  go_wp2_with fail
  refine (fun (hp : ∀ a W, SlJ B g0 c0 m M w a W → Code.wp Try.prog ?R (Exit.jump 0 (fun a' w' => SlJ B g0 c0 m M w a' w' ∧ m - (intOf (a'.tmps.getD 3 undef)).toNat < m - (intOf (a.tmps.getD 3 undef)).toNat) ?Q0) a W) => wp_scope_jumps 0 (SlJ B g0 c0 m M w) (fun a _ => m - (intOf (a.tmps.getD 3 undef)).toNat) rfl ?first ?pass) ?main
  case pass =>
    intro a W h
    refine wp_seq (wp_skip ?_)
    exact hp a W h
  case main =>
    rintro a W ⟨k, u1, u2, u4, u5, u6, u7, u8, u9, u10, u11, u12, u13, u14, u15, u16, u17, u18, u19, u20, u21, u22, u23, u24, u25, u26, u27, u28, u29, u30, u31, u32, u33, u34, u35, u36, u37, u38, u39, u40, u41, u42, u43, u44, u45, u46, u47, u48, u49, u50, u51, u52, u53, u54, u55, u56, u57, u58, u59, u60, rfl, hk, hEk, hBk⟩
    have HEk := Lib.hid hEk
    have HBk := Lib.hid hBk
    have HSm := Lib.hid (fun i (hi : i < m) p => HOK.out.sm k i p (by omega) hi)
    have HNz := Lib.hid (fun i hi hne => HOK.out.nz k i hk hi hne)
    obtain ⟨Mk, hMk⟩ : ∃ Mk, jit M m k = Mk := ⟨_, rfl⟩
    have HMk := Lib.hid hMk
    have HNX := Lib.hid (show jit M m (k + 1) = jstep Mk k m by rw [← hMk]; rfl)
    rw [hMk] at HEk HSm HNz
    have hWs : g0 < W.heap.size := hEk.lt
    clear hEk hBk hMk
    go_wp2_with fail
    go_loopw [10] (fun z wr => ∃ i : Nat, i ≤ m ∧ z = .int .i64 i ∧ EqM wr g0 m (jpart Mk k m i) ∧ Below B w wr) (fun z _ => m - (intOf z).toNat)
    case atStart => exact ⟨0, by omega, rfl, HEk.out.congr fun i _ => (if_neg (by omega)).symm, HBk.out⟩
    case round =>
      obtain ⟨i, hi, rfl, hE, hb⟩ := hrel
      have HB := Lib.hid hb
      have HEi := Lib.hid hE
      by_cases hlt : i < m
      · by_cases hik : i = k
        · have e1 : ((i : Int) != (k : Int)) = false := by simp; omega
          have e1' : (i != k) = false := by simp; omega
          have HN := Lib.hid (show EqM wr g0 m (jpart Mk k m (i + 1)) from hE.congr fun p _ => by
            rw [jpart_next]
            by_cases e : p = i
            · subst e
              show _ = if p = p then _ else _
              rw [if_pos rfl]
              unfold jpart jstep
              rw [if_neg (by omega), if_pos hik, hik]
            · show _ = if p = i then _ else _
              rw [if_neg e])
          clear hE hb hik
          go_wp2_with fail
          go_roundw
          case rel => exact ⟨i + 1, by omega, by go_num, HN.out, HB.out⟩
          case measure => simp [intOf]; omega
        · have e1 : ((i : Int) != (k : Int)) = true := by simp; omega
          have e1' : (i != k) = true := by simp; omega
          have hsz := hE.lt
          obtain ⟨G, C, cur, h1, h2, h3⟩ := hE
          have b0 : (0 : Int) ≤ (i : Int) := by omega
          have b1 : (i : Int) < (m : Int) := by omega
          have b2 : (0 : Int) ≤ (k : Int) := by omega
          have b3 : (k : Int) < (m : Int) := by omega
          have ci : wr.cell? ⟨g0, i, none⟩ = some (.slice (some ⟨G i, 0, none⟩) (m + 1) (C i)) := (blk_cell h1).trans (h2 i hlt)
          have ck : wr.cell? ⟨g0, k, none⟩ = some (.slice (some ⟨G k, 0, none⟩) (m + 1) (C k)) := (blk_cell h1).trans (h2 k hk)
          have fi := blk_free h1 i
          have r1 := (h3 i hlt).1
          have r2 := (h3 k hk).1
          have HJi : jpart Mk k m i i = Mk i := if_neg (by omega)
          have HJk : (∀ p, Sm (jpart Mk k m i k p)) ∧ jpart Mk k m i k = Mk k := by
            have : jpart Mk k m i k = Mk k := by
              unfold jpart
              split
              · unfold jstep; rw [if_pos rfl]
              · rfl
            rw [this]
            exact ⟨fun p => HSm.out k hk p, rfl⟩
          rw [HJi] at r1
          rw [HJk.2] at r2
          have HR1 := Lib.hid (show wr.drew.heap[G i]? = _ from r1)
          have HR2 := Lib.hid (show wr.drew.heap[G k]? = _ from r2)
          have HWo := Lib.hid (fun W h1 h2 => without_any (G i) (C i) (G k) (C k) (m + 1) k (Mk i) (Mk k) (by omega) (by omega) (HSm.out i hlt) (HSm.out k hk) (HNz.out i hlt hik) W h1 h2)
          have HJJ := Lib.hid (show jpart Mk k m (i + 1) = fun p => if p = i then elimF (Mk i) (Mk k) k (m + 1) else jpart Mk k m i p by
            rw [jpart_next]
            unfold jstep
            rw [if_neg hik])
          have HH1 := Lib.hid (show wr.drew.heap[g0]? = _ from h1)
          have hszd : g0 < wr.drew.heap.size := hsz
          have hci := h2 i hlt
          clear h1 h2 h3 r1 r2 HJi HJk hb hik
          go_wp2_with fail
          go_region_law (first | (go_simp; go_at_call 106; refine (HWo.out wr.drew HR1.out HR2.out).mono ?_; rintro e w2 ⟨g, c2, rfl, hgs, hg2, hb2⟩; have X1 := (hb2.block g0 hszd).trans HH1.out; have x0 := (blk_cell (j := i) X1).trans hci; have xf := blk_free X1 i; have HZ := Lib.hid (And.intro hgs (And.intro hg2 hb2)); clear X1 hgs hg2 hb2))
          all_goals (
            have HN := Lib.hid (show EqM (w2.setCell ⟨g0, i, none⟩ (.slice (some ⟨g, 0, none⟩) (m + 1) c2)) g0 m (jpart Mk k m (i + 1)) from by rw [HJJ.out]; exact EqM.set (EqM.drew HEi.out) HZ.out.2.2 hlt HZ.out.1 HZ.out.2.1)
            have HBn := Lib.hid (((HB.out.drew).trans (HZ.out.2.2.mono (Nat.le_trans hBw HB.out.size))).setCell (p := ⟨g0, i, none⟩) hB (.slice (some ⟨g, 0, none⟩) (m + 1) c2))
            clear x0 xf
            go_wp2_with fail
            go_roundw
            case rel => exact ⟨i + 1, by omega, by go_num, HN.out, HBn.out⟩
            case measure => simp [intOf]; omega)
      · have him : i = m := by omega
        subst him
        have HX := Lib.hid (show EqM wr g0 i (jit M i (k + 1)) from hE.congr fun p hp => by rw [HNX.out]; exact if_pos hp)
        by_cases hk1 : k + 1 < i
        · have e1 : decide ((k : Int) + 1 < (i : Int)) = true := decide_eq_true (by omega)
          have e1' : decide (k + 1 < i) = true := decide_eq_true hk1
          clear hE hb hlt
          go_wp2_with fail
          go_step3
          exact ⟨rfl, ⟨k + 1, _, _, _, _, _, _, _, _, _, _, _, _, _, _, _, _, _, _, _, _, _, _, _, _, _, _, _, _, _, _, _, _, _, _, _, _, _, _, _, _, _, _, _, _, _, _, _, _, _, _, _, _, _, _, _, _, _, _, _, rfl, hk1, HX.out, HB.out⟩, by simp [intOf]; omega⟩
        · have hke : k + 1 = i := by omega
          have e1 : decide ((k : Int) + 1 < (i : Int)) = false := decide_eq_false (by omega)
          have e1' : decide (k + 1 < i) = false := decide_eq_false hk1
          have HY := Lib.hid (show EqM wr g0 i (jit M i i) from by have := HX.out; rwa [hke] at this)
          have hwg := hE.lt
          obtain ⟨s, hs⟩ : ∃ s, wr.heap.size = s := ⟨_, rfl⟩
          have HS := Lib.hid hs
          rw [hs] at hwg
          obtain ⟨wo, hwo⟩ : ∃ wo : World, wo = wr := ⟨_, rfl⟩
          clear hE hb hlt hk1 hs hke
          go_wp2_with ((at_make; refine wpList_make_full _ rfl (.tmp 37) (.tmp 37) 59 rfl wr.heap.size 29 i0 (.agg #[.int .i64 0, .int .i64 0]) 2 Try.underlying59 hi0 hz0 hz1 .i64 .i64 _ _ i rfl rfl rfl rfl (by rw [hz2]; omega) (by simp only [maxLen]; omega) (Nat.le_refl _) ?_; intro w3 hown hgr; have MD := Lib.hid (made_rats hown hgr); clear hown hgr))
          rw [HS.out] at MD ⊢
          rw [← hwo] at MD HB HY HS
          clear hwo
          have hBs : B ≤ s := by omega
          go_loopw [41] (fun z wr => ∃ j : Nat, j ≤ i ∧ z = .int .i64 j ∧ wr.heap[s]? = some (.cells (ints (rowF (sofar (solF M i) (j * 2)) (i * 2))).toArray 29 (0, 0)) ∧ Below s wo wr) (fun z _ => i - (intOf z).toNat)
          case atStart => exact ⟨0, by omega, rfl, by rw [MD.out.2, rowF_congr (F := sofar (solF M i) (0 * 2)) (G := fun _ => 0) (fun p _ => if_neg (by omega))], MD.out.1⟩
          case round =>
            obtain ⟨j, hj, rfl, hg, hbl⟩ := hrel
            have HG := Lib.hid hg
            have HBL := Lib.hid hbl
            by_cases hlt : j < i
            · obtain ⟨G, C, cur, h1, h2, h3⟩ := HY.out
              have hG0 := (hbl.block g0 hwg).trans h1
              have hGjs : G j < s := by have := lt_of_block' (h3 j hlt).1; have := HS.out; omega
              have hGj := (hbl.block (G j) hGjs).trans (h3 j hlt).1
              have b0 : (0 : Int) ≤ (j : Int) := by omega
              have b1 : (j : Int) < (i : Int) := by omega
              have b2 : (0 : Int) ≤ (i : Int) := by omega
              have b3 : (i : Int) < ((i + 1 : Nat) : Int) := by omega
              have b4 : (j : Int) < ((i + 1 : Nat) : Int) := by omega
              have b5 : (i : Int) < (i : Int) + 1 := by omega
              have b6 : (j : Int) < (i : Int) + 1 := by omega
              have cj : wr.cell? ⟨g0, j, none⟩ = some (.slice (some ⟨G j, 0, none⟩) (i + 1) (C j)) := (blk_cell hG0).trans (h2 j hlt)
              have ca : wr.cell? ⟨G j, i, none⟩ = some (.int .i64 (jit M i i j i)) := (blk_cell hGj).trans (rowF_at (by omega))
              have cb : wr.cell? ⟨G j, j, none⟩ = some (.int .i64 (jit M i i j j)) := (blk_cell hGj).trans (rowF_at (by omega))
              have hs1 := HOK.out.sm i j i (Nat.le_refl _) hlt
              have hs2 := HOK.out.sm i j j (Nat.le_refl _) hlt
              have HFr := Lib.hid (fun w => fraction_any (jit M i i j i) (jit M i i j j) (by unfold Mid; unfold Sm at hs1; omega) (by unfold Mid; unfold Sm at hs2; omega) (HOK.out.dg j hlt) w)
              have HSN := Lib.hid (show frZ (jit M i i j i) (jit M i i j j) = solN M i j from rfl)
              rw [HSN.out] at HFr
              have HV0 := Lib.hid (solF_0 M i j)
              have HV1 := Lib.hid (solF_1 M i j)
              obtain ⟨⟨q1, q2⟩, hq⟩ : ∃ q, solN M i j = q := ⟨_, rfl⟩
              rw [hq] at HFr HV0 HV1
              unfold ratZ at HFr
              simp only at HFr HV0 HV1
              have hszd : s < wr.drew.heap.size := lt_of_block' hg
              clear h1 h2 h3 hG0 hGj hs1 hs2 hq hg hbl hGjs
              go_wp2_with fail
              go_region_law (first | (go_simp; go_at_call 93; refine (HFr.out wr.drew).mono ?_; rintro e w2 ⟨rfl, hb2⟩; have X1 := (hb2.block s hszd).trans (show wr.drew.heap[s]? = _ from HG.out); obtain ⟨d0, f0, d1, f1, HX2⟩ := put2at (F := solF M i) (j := j) (n := i) hlt X1 HV0.out HV1.out; have HZ := Lib.hid hb2; clear X1 hb2))
              all_goals (
                have HBn := Lib.hid (((HBL.out.drew).trans (HZ.out.mono (Nat.le_of_lt hszd))).setCell (p := ⟨s, j * 2, none⟩) (Nat.le_refl _) (.int .i64 q1))
                have HBm := Lib.hid (HBn.out.setCell (p := ⟨s, j * 2 + 1, none⟩) (Nat.le_refl _) (.int .i64 q2))
                clear d0 f0 d1 f1
                go_wp2_with fail
                go_roundw
                case rel => exact ⟨j + 1, by omega, by go_num, HX2.out, HBm.out⟩
                case measure => simp [intOf]; omega)
            · have hji : j = i := by omega
              subst hji
              have HR := Lib.hid (show wr.heap[s]? = some (.cells (ints (rowF (solF M j) (j * 2))).toArray 29 (0, 0)) by rw [hg, rowF_congr (F := sofar (solF M j) (j * 2)) (G := solF M j) fun p hp => if_pos hp])
              clear hlt hg hbl
              go_wp2_with fail
              simp only [Exit.jump]
              go_ret
              exact ⟨some ⟨s, 0, none⟩, j, rfl, Rd.of_block HR.out, HB.out.trans (HBL.out.mono hBs)⟩
  case first =>
    go_wp2_with fail
    go_step3
    simp only [Exit.then]
    rename_i hK
    refine hK _ _ (Code.wp_mono (fun e a w' q => ?_) (hp _ _ ⟨0, _, _, _, _, _, _, _, _, _, _, _, _, _, _, _, _, _, _, _, _, _, _, _, _, _, _, _, _, _, _, _, _, _, _, _, _, _, _, _, _, _, _, _, _, _, _, _, _, _, _, _, _, _, _, _, _, _, _, _, rfl, hm0, HE.out, Below.refl _ _⟩))
    cases e <;> first | exact q | exact ⟨q.1, q.2.1⟩
end Go.Proofs.Ytegehfcnclpdeaa

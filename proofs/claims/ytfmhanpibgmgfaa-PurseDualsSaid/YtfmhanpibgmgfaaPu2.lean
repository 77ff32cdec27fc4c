/-
  Helpers of the walks over purses: rows of numbers that change, fractions, numbers far from the ends of int64, single bits of groups. No program in sight.
-/
import Derived.Test.YtfmhanpibgmgfaaGen
import Derived.Test.YtfmhanpibgmgfaaBit
import Derived.Test.YtfmhanpibgmgfaaPu1
import Derived.Lib.Hide
namespace Go.Proofs.Ytfmhanpibgmgfaa
open Go.RowKit
set_option linter.unusedVariables false

/-- The first n numbers of F, as a row. -/
def rowF (F : Nat → Int) (n : Nat) : List Int := (List.range n).map F
theorem rowF_len (F : Nat → Int) (n : Nat) : (rowF F n).length = n := by simp [rowF]
theorem rowF_get {F : Nat → Int} {n j : Nat} (h : j < n) : (rowF F n)[j]? = some (F j) := by simp [rowF, h]
theorem rowF_at {F : Nat → Int} {n j : Nat} (h : j < n) : (ints (rowF F n)).toArray[j]? = some (.int .i64 (F j)) := by simp [rowF, ints, h]
theorem rowF_congr {F G : Nat → Int} {n : Nat} (h : ∀ j, j < n → F j = G j) : rowF F n = rowF G n := by
  unfold rowF
  exact List.map_congr_left fun p hp => h p (List.mem_range.1 hp)
theorem rowF_set {F G : Nat → Int} {n k : Nat} {x : Int} (hk : x = G k) (hg : ∀ j, j ≠ k → G j = F j) : (ints (rowF F n)).toArray.setIfInBounds k (.int .i64 x) = (ints (rowF G n)).toArray := by
  rw [List.setIfInBounds_toArray]
  congr 1
  refine List.ext_getElem? fun j => ?_
  rw [List.getElem?_set]
  by_cases hj : j < n
  · have a1 := rowF_at (F := F) hj
    have a2 := rowF_at (F := G) hj
    rw [List.getElem?_toArray] at a1 a2
    rw [a1, a2]
    by_cases h : k = j
    · subst h
      rw [if_pos rfl, if_pos (by simp [rowF, ints]; exact hj), hk]
    · rw [if_neg h, hg j fun e => h e.symm]
  · have e : ∀ f : Nat → Int, (ints (rowF f n))[j]? = none := fun f => by simp [rowF, ints]; omega
    rw [e F, e G]
    split
    · rw [if_neg (by simp [rowF, ints]; omega)]
    · rfl
theorem made_rowF {w w1 : World} {base n : Nat} {t : TypeId} (h : w1.ownsRow base t 1 (.slice (some ⟨w.heap.size, 0, none⟩) n n) n (madeCells (Value.int .i64 0).cells (n * 1)).toList) (hg : w.grownBy w1 none) :
    Below w.heap.size w w1 ∧ w1.heap[w.heap.size]? = some (.cells (ints (rowF (fun _ => 0) n)).toArray t (0, 0)) := by
  refine ⟨(Below.refl _ _).grown hg (Nat.le_refl _) (by simp), ?_⟩
  have hcells : (madeCells (Value.int .i64 0).cells (n * 1)).toList = ints (rowF (fun _ => 0) n) := by
    rw [Nat.mul_one]
    refine (toList_madeCells_one (.int .i64 0) n).trans ?_
    refine List.ext_getElem? fun j => ?_
    by_cases h : j < n
    · simp [rowF, ints, h]
    · simp [rowF, ints, h]
  rw [← hcells]
  exact own_full h
theorem grown_set (w : World) (b i : Nat) (u : Value) : w.grownBy (w.setCell ⟨b, i, none⟩ u) (some b) :=
  ⟨rfl, rfl, rfl, by simp [World.setCell], fun k hk hne => by
    have : k ≠ b := fun e => hne (by rw [e])
    simp [World.setCell, Array.getElem?_modify, Ne.symm this]⟩
theorem lt_of_block' {w : World} {g : Nat} {o : Obj} (h : w.heap[g]? = some o) : g < w.heap.size := (Array.getElem?_eq_some_iff.1 h).1
theorem blk_alloc' {w : World} {o : Obj} {g : Nat} {x : Obj} (h : w.heap[g]? = some x) : (w.alloc o).heap[g]? = some x := (((Below.refl w.heap.size w).alloc (Nat.le_refl _) o).block _ (lt_of_block' h)).trans h
/-- Far from the ends of int64. -/
def Mid (x : Int) : Prop := -4000000000000000000 ≤ x ∧ x ≤ 4000000000000000000
def gcdZ (a b : Int) : Nat := Nat.gcd a.natAbs b.natAbs
theorem gcdZ_step (x y : Int) : gcdZ y (Int.tmod x y) = gcdZ x y := by
  unfold gcdZ
  rw [Int.natAbs_tmod, Nat.gcd_comm x.natAbs, Nat.gcd_rec y.natAbs x.natAbs, Nat.gcd_comm]
theorem tmod_lt (x : Int) {y : Int} (hy : y ≠ 0) : (Int.tmod x y).natAbs < y.natAbs := by
  rw [Int.natAbs_tmod]
  exact Nat.mod_lt _ (by omega)
theorem wrapI_mid {x : Int} (h : Mid x) : IntKind.i64.wrap x = x := by
  unfold Mid at h
  rw [IntKind.wrap_i64]
  omega
theorem wrap_mid {x : Int} (h : Mid x) : wrap64 x = x := by
  unfold Mid at h
  unfold wrap64
  omega
theorem tdiv_mid {x : Int} (h : Mid x) (g : Int) : Mid (Int.tdiv x g) := by
  have h1 : (Int.tdiv x g).natAbs ≤ x.natAbs := by rw [Int.natAbs_tdiv]; exact Nat.div_le_self _ _
  unfold Mid at *
  omega
/-- A fraction, as the program holds it. -/
def ratZ (p : Int × Int) : Value := .agg #[.int .i64 p.1, .int .i64 p.2]
/-- n / d in lowest terms. -/
def frZ (n d : Int) : Int × Int := (Int.tdiv n (gcdZ n d : Nat), Int.tdiv d (gcdZ n d : Nat))
/-- A cell of two, stored anew. -/
theorem put2 {W : World} {g : Nat} {x y : Value} {t : TypeId} (h : W.heap[g]? = some (.cells #[x, y] t (0, 0))) (a b : Value) :
    W.cell? ⟨g, 0, none⟩ = some x ∧ W.frozen? ⟨g, 0, none⟩ = false ∧ (W.setCell ⟨g, 0, none⟩ a).cell? ⟨g, 1, none⟩ = some y ∧ (W.setCell ⟨g, 0, none⟩ a).frozen? ⟨g, 1, none⟩ = false ∧
    Hid (((W.setCell ⟨g, 0, none⟩ a).setCell ⟨g, 1, none⟩ b).heap[g]? = some (.cells #[a, b] t (0, 0))) := by
  have h1 := blk_set h 0 a
  exact ⟨blk_cell h, blk_free h 0, blk_cell h1, blk_free h1 1, blk_set h1 1 b⟩
theorem put2_below {B : Nat} {w W : World} {g : Nat} (a b : Value) (h : Below B w W) (hg : B ≤ g) (hs : B ≤ W.heap.size) : Below B w ((W.setCell ⟨g, 0, none⟩ a).setCell ⟨g, 1, none⟩ b) :=
  h.grown ((grown_set W g 0 a).trans (grown_set _ g 1 b)) hs fun q hq => by injection hq with hq; omega
theorem bdN' {B : Nat} {w w' : World} (h : Below B w w') (n : Nat) : Below B w (w'.drewN n) := ⟨h.os, h.tape, h.output, h.size, h.block⟩
/-- A number of an equation: at most 10^9 in size. -/
def Sm (x : Int) : Prop := -1000000000 ≤ x ∧ x ≤ 1000000000
theorem sm_mul {x y : Int} (hx : Sm x) (hy : Sm y) : -1000000000000000000 ≤ x * y ∧ x * y ≤ 1000000000000000000 := by
  have := mul_le (A := 1000000000) (B := 1000000000) hx hy
  omega
def sofar (F : Nat → Int) (k p : Nat) : Int := if p < k then F p else 0
theorem made_zero2 (n : Nat) : (madeCells #[.int .i64 0, .int .i64 0] n).toList = ints (rowF (fun _ => 0) n) := by
  refine List.ext_getElem? fun j => ?_
  by_cases h : j < n
  · have h2 : j % 2 = 0 ∨ j % 2 = 1 := by omega
    rcases h2 with h2 | h2 <;> simp [madeCells, rowF, ints, h, h2]
  · simp [madeCells, rowF, ints, h]
theorem own_full2 {w : World} {base g n : Nat} {e : TypeId} {xs : List Value} (h : w.ownsRow base e 2 (.slice (some ⟨g, 0, none⟩) n n) n xs) : w.heap[g]? = some (.cells xs.toArray e (0, 0)) := by
  rcases h.2 with ⟨hv, _⟩ | ⟨g', cap, cur, hv, _, hg, _, _, hcs, htake⟩
  · cases hv
  · injection hv with h1 h2 h3
    injection h1 with h1
    injection h1 with h1
    subst h1; subst h3
    have : cur.toList = xs := by rw [← htake, List.take_of_length_le (by simp [hcs])]
    rw [← this]
    simpa using hg
theorem made_rats {w w1 : World} {t : TypeId} {n : Nat} (h : w1.ownsRow w.heap.size t 2 (.slice (some ⟨w.heap.size, 0, none⟩) n n) n (madeCells (Value.agg #[.int .i64 0, .int .i64 0]).cells (n * 2)).toList) (hg : w.grownBy w1 none) :
    Below w.heap.size w w1 ∧ w1.heap[w.heap.size]? = some (.cells (ints (rowF (fun _ => 0) (n * 2))).toArray t (0, 0)) := by
  refine ⟨(Below.refl _ _).grown hg (Nat.le_refl _) (by simp), ?_⟩
  rw [← made_zero2]
  exact own_full2 h
/-- Two cells, stored anew. -/
theorem put2at {W : World} {g n j : Nat} {F : Nat → Int} {t : TypeId} (hj : j < n) (h : W.heap[g]? = some (.cells (ints (rowF (sofar F (j * 2)) (n * 2))).toArray t (0, 0))) {a b : Int} (ha : F (j * 2) = a) (hb : F (j * 2 + 1) = b) :
    W.cell? ⟨g, j * 2, none⟩ = some (.int .i64 (sofar F (j * 2) (j * 2))) ∧ W.frozen? ⟨g, j * 2, none⟩ = false ∧ (W.setCell ⟨g, j * 2, none⟩ (.int .i64 a)).cell? ⟨g, j * 2 + 1, none⟩ = some (.int .i64 (sofar F (j * 2 + 1) (j * 2 + 1))) ∧ (W.setCell ⟨g, j * 2, none⟩ (.int .i64 a)).frozen? ⟨g, j * 2 + 1, none⟩ = false ∧
    Hid (((W.setCell ⟨g, j * 2, none⟩ (.int .i64 a)).setCell ⟨g, j * 2 + 1, none⟩ (.int .i64 b)).heap[g]? = some (.cells (ints (rowF (sofar F ((j + 1) * 2)) (n * 2))).toArray t (0, 0))) := by
  have st : ∀ k, sofar F (k + 1) k = F k := fun k => by unfold sofar; rw [if_pos (Nat.lt_succ_self k)]
  have of : ∀ k p, p ≠ k → sofar F (k + 1) p = sofar F k p := fun k p hp => by unfold sofar; split <;> split <;> first | rfl | omega
  have h1 := blk_set h (j * 2) (.int .i64 a)
  rw [rowF_set (G := sofar F (j * 2 + 1)) (by rw [st, ha]) (of _)] at h1
  have h2 := blk_set h1 (j * 2 + 1) (.int .i64 b)
  rw [rowF_set (G := sofar F (j * 2 + 1 + 1)) (by rw [st, hb]) (of _)] at h2
  exact ⟨(blk_cell h).trans (rowF_at (by omega)), blk_free h _, (blk_cell h1).trans (rowF_at (by omega)), blk_free h1 _, Lib.hid (by rw [show (j + 1) * 2 = j * 2 + 1 + 1 from by omega]; exact h2)⟩

/-! ### Single players of groups -/
theorem and_pow (g p : Nat) : g &&& 2 ^ p = if g.testBit p then 2 ^ p else 0 := by
  refine Nat.eq_of_testBit_eq fun i => ?_
  rw [Nat.testBit_and, Nat.testBit_two_pow]
  by_cases h : p = i
  · subst h
    cases hb : g.testBit p <;> simp
  · simp only [h, decide_false, Bool.and_false]
    split
    · rw [Nat.testBit_two_pow]
      simp [h]
    · simp
theorem pow5 {p : Nat} (hp : p < 40) : 1 ≤ 2 ^ p ∧ (2 : Nat) ^ p ≤ 1099511627776 := by
  have h := Nat.pow_le_pow_right (show 0 < 2 by omega) (show p ≤ 40 by omega)
  exact ⟨Nat.one_le_two_pow, h⟩
theorem isin_bit {g p : Nat} (hp : p < 40) (hg : g < 9223372036854775808) : (bits .and .i64 (g : Int) ((2 ^ p : Nat) : Int) != 0) = g.testBit p := by
  have h := pow5 hp
  rw [i64_and_nat g (2 ^ p) hg (by omega), and_pow]
  cases g.testBit p
  · rfl
  · show (((2 ^ p : Nat) : Int) != 0) = true
    rw [bne_iff_ne]
    omega
theorem or_lt32 {a b n : Nat} (ha : a < 2 ^ n) (hb : b < 2 ^ n) : a ||| b < 2 ^ n := Nat.or_lt_two_pow ha hb
end Go.Proofs.Ytfmhanpibgmgfaa

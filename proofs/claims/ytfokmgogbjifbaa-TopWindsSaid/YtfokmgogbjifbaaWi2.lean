/-
  The walks of turned sets: RotateLeft32, turn, pointsOf, Points of package wind. No condition.
-/
import Derived.Test.YtfokmgogbjifbaaWi1
import Derived.Laws.ShiftsVarLaws
namespace Go.Proofs.Ytfokmgogbjifbaa
open Go.RowKit
set_option linter.unusedVariables false

/-- How far a number turns a set. -/
def byN (k : Int) : Nat := (k % 32).toNat
theorem byN_lt (k : Int) : byN k < 32 := by unfold byN; omega
theorem by_and (k : Int) : bits .and .u64 (IntKind.u64.wrap k) 31 = (byN k : Int) := by
  show IntKind.u64.wrap ((BitVec.ofInt 64 (IntKind.u64.wrap k) &&& BitVec.ofInt 64 31).toNat : Int) = _
  rw [BitVec.toNat_and, BitVec.toNat_ofInt, BitVec.toNat_ofInt, IntKind.wrap_u64, IntKind.wrap_u64]
  have e : ((31 : Int) % ((2 ^ 64 : Nat) : Int)).toNat = 2 ^ 5 - 1 := by decide
  rw [e, Nat.and_two_pow_sub_one_eq_mod]
  unfold byN
  omega
theorem rot_print {x s : Nat} (hx : x < 4294967296) (hs : s < 32) : bits .or .u32 ((x : Int) * 2 ^ (s : Int).toNat % 4294967296) ((x : Int) / 2 ^ (32 - (s : Int)).toNat) = ((rotN x s : Nat) : Int) := by
  have e1 : (x : Int) * 2 ^ (s : Int).toNat % 4294967296 = ((x * 2 ^ s % 4294967296 : Nat) : Int) := by simp
  have e2 : (32 - (s : Int)).toNat = 32 - s := by omega
  have e3 : (x : Int) / 2 ^ (32 - s) = ((x / 2 ^ (32 - s) : Nat) : Int) := by simp
  rw [e1, e2, e3, u32_or_nat _ _ (Nat.mod_lt _ (by decide)) (Nat.lt_of_le_of_lt (Nat.div_le_self _ _) hx)]
  rfl
theorem RotateLeft32_any (x : Nat) (k : Int) (w : World) (hx : x < 4294967296) :
    Calls Try.prog 36 #[.int .u32 x, .int .i64 k] w fun e w' => e = .returned (.int .u32 (rotN x (byN k) : Nat)) ∧ w = w' := by
  have h := by_and k
  have hl := byN_lt k
  have h0 : 0 ≤ bits .and .u64 (IntKind.u64.wrap k) 31 := by omega
  have h1 : bits .and .u64 (IntKind.u64.wrap k) 31 ≤ 32 := by omega
  have H := Lib.hid h
  clear h
  go_enter Try.func36, Try.ntmps36
  go_wp2_with fail
  go_ret
  exact ⟨by rw [H.out, rot_print hx hl]; rfl, rfl⟩
theorem turn_any (x : Nat) (k : Int) (w : World) (hx : x < 4294967296) :
    Calls Try.prog 29 #[.int .u32 x, .int .i64 k] w fun e w' => e = .returned (.int .u32 (rotN x (byN k) : Nat)) ∧ w = w' := by
  go_enter Try.func29, Try.ntmps29
  go_wp2_with fail
  refine (RotateLeft32_any x k w hx).mono ?_
  rintro e w' ⟨rfl, rfl⟩
  go_wp2_with fail
  go_ret
  exact ⟨rfl, rfl⟩

/-! ### The points of an arc -/
def arcN (a : Pt) : Nat := ptsN a.x.toNat a.y.toNat
theorem arcN_lt (a : Pt) : arcN a < 4294967296 := bit32 _
theorem arc_rot {x y : Int} (hx : 0 ≤ x ∧ x < 32) (hy : 1 ≤ y ∧ y ≤ 32) : rotN (2 ^ y.toNat - 1) (byN x) = arcN ⟨x, y⟩ := by
  have e : byN x = x.toNat := by unfold byN; omega
  rw [e, rot_pts (by omega) (by omega)]
  rfl
theorem low_print {y : Int} (hy : 1 ≤ y ∧ y ≤ 32) : (4294967295 : Int) / 2 ^ (32 - y).toNat = ((2 ^ y.toNat - 1 : Nat) : Int) := by
  have h := all_shr (w := y.toNat) (by omega)
  have e : (32 - y).toNat = 32 - y.toNat := by omega
  rw [e, ← h]
  simp
theorem pointsOf_any (a : Pt) (w : World) (ha : arcE a = 0) : Calls Try.prog 25 #[a.v] w fun e w' => e = .returned (.int .u32 (arcN a : Nat)) ∧ Below w.heap.size w w' := by
  obtain ⟨hx, hy⟩ := arcE_zero ha
  obtain ⟨x, y⟩ := a
  simp only at hx hy
  have T := Lib.hid (fun (w : World) => turn_any (2 ^ y.toNat - 1) x w (low_lt (w := y.toNat) (by omega)))
  rw [arc_rot hx hy, ← low_print hy] at T
  obtain ⟨h0, h1⟩ := hx
  obtain ⟨h2, h3⟩ := hy
  unfold Pt.v
  simp only
  have B := Lib.hid ((Below.refl w.heap.size w).alloc (Nat.le_refl _) (.cells #[.int .i64 x, .int .i64 y] 37))
  clear ha
  have s0 : 0 ≤ 32 - y := by omega
  have s1 : 32 - y ≤ 32 := by omega
  have sw : IntKind.i64.wrap (32 - y) = 32 - y := by rw [IntKind.wrap_i64]; omega
  obtain ⟨W, hW⟩ : ∃ W, w.alloc (.cells #[.int .i64 x, .int .i64 y] 37) = W := ⟨_, rfl⟩
  have c0 : W.cell? ⟨w.heap.size, 0, none⟩ = some (.int .i64 x) := by rw [← hW]; simp
  have c1 : W.cell? ⟨w.heap.size, 1, none⟩ = some (.int .i64 y) := by rw [← hW]; simp
  rw [hW] at B
  go_enter Try.func25, Try.ntmps25
  go_wp2_with fail
  clear hW
  go_quiet ((go_at_call 29; exact qs0 (T.out _)))
  go_wp2_with fail
  go_ret
  exact ⟨rfl, below_drewN B.out _⟩
def arcV (a : Pt) : Int := if arcE a = 0 then (arcN a : Int) else 0
theorem Points_any (a : Pt) (w : World) : Calls Try.prog 11 #[a.v] w fun e w' => e = .returned (.tuple #[.int .i64 (arcV a), .int .i64 (arcE a)]) ∧ Below w.heap.size w w' := by
  have HV := Lib.hid (fun w => ValidateArc_any a w)
  have HP := Lib.hid (fun w => pointsOf_any a w)
  obtain ⟨W, hW, h0, h1, hs, hb0⟩ := one_pt w (.int .i64 a.x) (.int .i64 a.y) 37
  have F := Lib.hid (And.intro h0 (And.intro h1 hs))
  have B0 := Lib.hid hb0
  clear hb0 hs
  unfold arcV
  have hN := arcN_lt a
  by_cases hv : arcE a = 0
  · rw [if_pos hv]
    have HP2 := Lib.hid (fun w => HP.out w hv)
    rw [hv] at HV ⊢
    clear hv HP
    generalize arcN a = N at *
    obtain ⟨x, y⟩ := a
    unfold Pt.v at *
    simp only at HV HP2 hW h0 h1 F
    go_enter Try.func11, Try.ntmps11
    go_wp2_with fail
    clear hW
    refine (HV.out W).mono ?_
    rintro e w1 ⟨rfl, hb⟩
    have B1 := Lib.hid (B0.out.trans (hb.mono B0.out.size))
    have e0 := (hb.cell (p := ⟨w.heap.size, 0, none⟩) F.out.2.2).trans F.out.1
    have e1 := (hb.cell (p := ⟨w.heap.size, 1, none⟩) F.out.2.2).trans F.out.2.1
    clear hb h0 h1
    go_wp2_with fail
    refine (HP2.out w1).mono ?_
    rintro e w2 ⟨rfl, hb⟩
    go_wp2_with fail
    go_ret2
    exact ⟨rfl, B1.out.trans (hb.mono B1.out.size)⟩
  · rw [if_neg hv]
    clear HP
    generalize arcE a = E at *
    have hE : (E == 0) = false := by simpa using hv
    have hE' : (E != 0) = true := by simpa using hv
    clear hv
    obtain ⟨x, y⟩ := a
    unfold Pt.v at *
    simp only at HV hW h0 h1 F
    go_enter Try.func11, Try.ntmps11
    go_wp2_with fail
    clear hW
    refine (HV.out W).mono ?_
    rintro e w1 ⟨rfl, hb⟩
    go_wp2_with fail
    go_ret2
    exact ⟨rfl, B0.out.trans (hb.mono B0.out.size)⟩

/-! ### The document's side -/
def hasN (a : Pt) (p : Nat) : Bool := inArc a.x.toNat a.y.toNat p
theorem has_print {x y : Int} {p : Nat} (hx : 0 ≤ x ∧ x < 32) (hy : 1 ≤ y ∧ y ≤ 32) (hp : p < 32) : decide (((p : Int) - x) % 32 < y) = hasN ⟨x, y⟩ p := by
  unfold hasN inArc
  rw [decide_eq_decide]
  simp only
  omega
/-- An array of 32 bools. -/
def bools (f : Nat → Bool) : List Value := (List.range 32).map fun j => .bool (f j)
theorem bools_at {f : Nat → Bool} {j : Nat} (h : j < 32) : (bools f)[j]? = some (.bool (f j)) := by simp [bools, h]
def numK (f : Nat → Bool) (k : Nat) : Nat := bitK (fun j => f (k + j)) (32 - k)
theorem numK_step (f : Nat → Bool) {k : Nat} (hk : k < 32) : numK f k = numK f (k + 1) * 2 + if f k then 1 else 0 := by
  unfold numK
  rw [show 32 - k = (32 - (k + 1)) + 1 by omega, bitK_head]
  congr 2
  refine bitK_congr fun j _ => ?_
  rw [show k + (j + 1) = k + 1 + j by omega]
theorem numK_lt (f : Nat → Bool) (k : Nat) : numK f k < 4294967296 := by
  have h1 := bitK_lt (fun j => f (k + j)) (32 - k)
  have h2 : 2 ^ (32 - k) ≤ 2 ^ 32 := Nat.pow_le_pow_right (by omega) (by omega)
  unfold numK
  omega
theorem numK_zero (f : Nat → Bool) : numK f 0 = bitK f 32 := by
  unfold numK
  simp
theorem bools_set (f : Nat → Bool) (k : Nat) (b : Bool) : (bools f).toArray.setIfInBounds k (.bool b) = (bools fun j => if j = k then b else f j).toArray := by
  rw [List.setIfInBounds_toArray]
  congr 1
  refine List.ext_getElem? fun j => ?_
  rw [List.getElem?_set]
  unfold bools
  simp only [List.getElem?_map, List.length_map, List.length_range]
  by_cases hj : k = j
  · subst hj
    rw [if_pos rfl]
    by_cases hn : k < 32
    · rw [if_pos hn, List.getElem?_range hn]
      simp
    · rw [if_neg hn, List.getElem?_eq_none (by simpa using hn)]
      rfl
  · rw [if_neg hj]
    by_cases hn : j < 32
    · rw [List.getElem?_range hn, Option.map_some, Option.map_some, if_neg (fun h => hj h.symm)]
    · rw [List.getElem?_eq_none (by simpa using hn)]
      rfl
theorem bools_congr {f g : Nat → Bool} (h : ∀ j, j < 32 → f j = g j) : bools f = bools g := List.map_congr_left fun j hj => by rw [h j (List.mem_range.1 hj)]
/-- The first k are set as f says, the rest not at all. -/
def upTo (f : Nat → Bool) (k j : Nat) : Bool := decide (j < k) && f j
theorem upTo_next (f : Nat → Bool) (k : Nat) (b : Bool) (h : f k = b) : (bools (upTo f k)).toArray.setIfInBounds k (.bool b) = (bools (upTo f (k + 1))).toArray := by
  rw [bools_set]
  congr 1
  refine bools_congr fun j hj => ?_
  unfold upTo
  by_cases h1 : j = k
  · subst h1
    simp [h]
  · rw [if_neg h1]
    congr 1
    rw [decide_eq_decide]
    omega
theorem upTo_all (f : Nat → Bool) : bools (upTo f 32) = bools f := bools_congr fun j hj => by simp [upTo, hj]
theorem upTo_none (f : Nat → Bool) : bools (upTo f 0) = bools fun _ => false := bools_congr fun j hj => by simp [upTo]
/-- A new array of bools. -/
theorem one_arr (f : Nat → Bool) (w : World) (t : TypeId) : ∃ W, w.alloc (.cells #[.bool false, .bool false, .bool false, .bool false, .bool false, .bool false, .bool false, .bool false, .bool false, .bool false, .bool false, .bool false, .bool false, .bool false, .bool false, .bool false, .bool false, .bool false, .bool false, .bool false, .bool false, .bool false, .bool false, .bool false, .bool false, .bool false, .bool false, .bool false, .bool false, .bool false, .bool false, .bool false] t) = W ∧ W.heap[w.heap.size]? = some (.cells (bools (upTo f 0)).toArray t (0, 0)) ∧ w.heap.size < W.heap.size ∧ Below w.heap.size w W := by
  obtain ⟨W, h1, h2⟩ := one_blk w (bools (upTo f 0)).toArray t
  rw [upTo_none] at h1 ⊢
  rw [upTo_none] at h2
  exact ⟨W, h1, h2⟩
theorem bools_size (f : Nat → Bool) : (bools f).toArray.size = 32 := by simp [bools]
theorem arcN_is (a : Pt) : arcN a = bitK (hasN a) 32 := rfl
end Go.Proofs.Ytfokmgogbjifbaa

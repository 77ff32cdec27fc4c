/-
  The least way to fill in worn digits; one byte replaced by another one. No program in sight.
-/
import Derived.Test.YtoenecgjiejljaaDoorRc1
import Derived.Lib.Replace
namespace Go.Proofs.YtoenecgjiejljaaDoor
set_option linter.unusedVariables false

theorem rep_k (c d : UInt8) : ∀ l : List UInt8, Lib.replaceK [c] [d] (Lib.count l [c]) l = l.map fun x => if x = c then d else x
  | [] => by
    have : Lib.count [] [c] = 0 := by rw [Lib.count_one]; rfl
    rw [this]; rfl
  | b :: l => by
    have ih := rep_k c d l
    by_cases h : b = c
    · subst h
      rw [Lib.count_cons_eq, Nat.add_comm, Lib.replaceK_hit _ _ _ _ 0 (by simp [Lib.index]), List.map_cons, if_pos rfl, ← ih]
      simp
    · rw [Lib.count_cons_ne b c l h, List.map_cons, if_neg h, ← ih]
      rcases hk : Lib.count l [c] with _ | k
      · rfl
      · obtain ⟨i, hi⟩ := Lib.index_of_count (s := l) (old := [c]) (by omega)
        have e : Lib.index (b :: l) [c] = ((i + 1 : Nat) : Int) := by
          have hp : [c].isPrefixOf (b :: l) = false := by
            show (c == b && _) = false
            rw [show (c == b) = false from beq_eq_false_iff_ne.2 fun e => h e.symm]
            rfl
          rw [Lib.index, hp, hi]
          have : ((i : Int) == -1) = false := beq_eq_false_iff_ne.2 (by omega)
          rw [this]
          simp
        rw [Lib.replaceK_hit _ _ _ _ _ e, Lib.replaceK_hit _ _ _ _ _ hi]
        simp
theorem rep_one {c d : UInt8} (h : c ≠ d) (l : List UInt8) : Lib.replaceAll l [c] [d] = l.map fun x => if x = c then d else x := by
  unfold Lib.replaceAll Lib.replace
  have : ([c] == [d]) = false := beq_eq_false_iff_ne.2 fun e => h (by simpa using e)
  rw [if_neg (by rw [this]; decide), ← rep_k]
  unfold Lib.replaceNum
  rw [if_pos (Or.inl (by decide))]
/-- The least digit that makes the sum 0 between two lists, or 10. -/
def dst (a b : List Int) : Nat := ((List.range 10).find? fun d : Nat => decide (sumL (a ++ (d : Int) :: b) = 0)).getD 10
theorem dst_lt {a b : List Int} (ha : ∀ x ∈ a, Dig x) (hb : ∀ x ∈ b, Dig x) (hl : b.length < 6) : dst a b < 10 ∧ sumL (a ++ (dst a b : Int) :: b) = 0 := by
  obtain ⟨d, hd, hs⟩ := one_fits ha hb hl
  unfold dst
  cases hf : (List.range 10).find? fun d : Nat => decide (sumL (a ++ (d : Int) :: b) = 0) with
  | none =>
    have := List.find?_eq_none.1 hf d (List.mem_range.2 hd)
    simp [hs] at this
  | some e =>
    have h1 := List.mem_range.1 (List.mem_of_find?_eq_some hf)
    have h2 := List.find?_some hf
    simp only [decide_eq_true_eq] at h2
    exact ⟨h1, h2⟩
theorem nat_dig {d : Nat} (h : d < 10) : Dig (d : Int) := ⟨by omega, by omega⟩
/-- It is the only one. -/
theorem dst_is {a b : List Int} (ha : ∀ x ∈ a, Dig x) (hb : ∀ x ∈ b, Dig x) (hl : b.length < 6) {d : Nat} (hd : d < 10) : sumL (a ++ (d : Int) :: b) = 0 ↔ d = dst a b := by
  obtain ⟨h1, h2⟩ := dst_lt ha hb hl
  constructor
  · intro h
    have := sum_wrong ha hb (nat_dig hd) (nat_dig h1) (h.trans h2.symm)
    omega
  · rintro rfl; exact h2
/-- From the left on: what is worn becomes 0, the last one what the sum asks. -/
def gr : List Int → List Int → List Int
  | a, [] => a
  | a, x :: r => if x < 0 then gr (a ++ [if nW r = 0 then (dst a r : Int) else 0]) r else gr (a ++ [x]) r
theorem nW_cons (x : Int) (l : List Int) : nW (x :: l) = nW l + (if x < 0 then 1 else 0) := by
  unfold nW
  rw [List.countP_cons]
  by_cases h : x < 0 <;> simp [h]
theorem nW_append (a b : List Int) : nW (a ++ b) = nW a + nW b := by unfold nW; rw [List.countP_append]
theorem gr_dig : ∀ (b a : List Int), nW b = 0 → gr a b = a ++ b
  | [], a, _ => by simp [gr]
  | x :: b, a, h => by
    rw [nW_cons] at h
    have hx : ¬ x < 0 := by intro h0; rw [if_pos h0] at h; omega
    rw [if_neg hx] at h
    rw [gr, if_neg hx, gr_dig b _ (by omega)]
    simp
theorem gr_split : ∀ (a a0 b : List Int), nW b = 0 → gr a0 (a ++ (-1) :: b) = (a0 ++ fill0 a) ++ (dst (a0 ++ fill0 a) b : Int) :: b
  | [], a0, b, h => by
    show gr a0 ((-1) :: b) = _
    rw [gr, if_pos (by decide), if_pos h, gr_dig b _ h]
    simp [fill0]
  | x :: a, a0, b, h => by
    show gr a0 (x :: (a ++ (-1) :: b)) = _
    have hn : nW (a ++ (-1) :: b) ≠ 0 := by rw [nW_append, nW_cons]; simp
    by_cases hx : x < 0
    · rw [gr, if_pos hx, if_neg hn, gr_split a _ b h]
      have : fill0 (x :: a) = 0 :: fill0 a := by simp [fill0, hx]
      rw [this]
      simp
    · rw [gr, if_neg hx, gr_split a _ b h]
      have : fill0 (x :: a) = x :: fill0 a := by simp [fill0, hx]
      rw [this]
      simp
/-- Behind the last worn digit there is none. -/
theorem last_worn : ∀ l : List Int, WDig l → nW l ≠ 0 → ∃ a b, l = a ++ (-1) :: b ∧ nW b = 0
  | [], _, h => absurd rfl h
  | x :: l, hw, h => by
    by_cases h0 : nW l = 0
    · rw [nW_cons, h0] at h
      rcases hw x (by simp) with rfl | hd
      · exact ⟨[], l, rfl, h0⟩
      · exact absurd (by rw [if_neg (by have := hd.1; omega)]) h
    · obtain ⟨a, b, he, hb⟩ := last_worn l (fun y hy => hw y (List.mem_cons_of_mem _ hy)) h0
      exact ⟨x :: a, b, by rw [he]; rfl, hb⟩
theorem wdig_parts {a b : List Int} (h : WDig (a ++ (-1) :: b)) (hb : nW b = 0) : WDig a ∧ (∀ x ∈ b, Dig x) :=
  ⟨fun x hx => h x (by simp [hx]), nW_dig (fun x hx => h x (by simp [hx])) hb⟩
theorem fill0_none {l : List Int} (h : nW l = 0) : fill0 l = l := by
  unfold fill0
  conv => rhs; rw [← List.map_id l]
  refine List.map_congr_left fun x hx => ?_
  unfold nW at h
  rw [List.countP_eq_zero] at h
  have := h x hx
  simp only [decide_eq_true_eq] at this
  rw [if_neg this]
  rfl
theorem fill0_append (a b : List Int) : fill0 (a ++ b) = fill0 a ++ fill0 b := by simp [fill0]
/-- All filled in by 0: where that makes a ring, it is the least one. -/
theorem gr_lowest {l : List Int} (hw : WDig l) (hl : l.length ≤ 6) (h : sumL (fill0 l) = 0) : gr [] l = fill0 l := by
  by_cases h0 : nW l = 0
  · rw [gr_dig l [] h0, fill0_none h0]; rfl
  · obtain ⟨a, b, rfl, hb⟩ := last_worn l hw h0
    obtain ⟨ha, hbd⟩ := wdig_parts hw hb
    rw [gr_split a [] b hb]
    have e : fill0 (a ++ (-1) :: b) = fill0 a ++ ((0 : Nat) : Int) :: b := by
      rw [fill0_append]
      show fill0 a ++ ((if (-1 : Int) < 0 then 0 else -1) :: fill0 b) = _
      rw [fill0_none hb]
      rfl
    rw [e] at h ⊢
    have hlen : b.length < 6 := by simp at hl; omega
    have := (dst_is (fill0_dig ha) hbd hlen (by decide : 0 < 10)).1 h
    rw [List.nil_append, ← this]
end Go.Proofs.YtoenecgjiejljaaDoor

/-
  Texts merged into one (Rc1, Rc2): contracts of the functions of package lure, what is reckoned of games. Conditions: as each says.
-/
import Derived.Test.YtoenecgjiejljaaDoorMt6
import Derived.Lib.Replace
namespace Go.Proofs.YtoenecgjiejljaaDoor
set_option linter.unusedVariables false

/-- What is at a place, or -1 where it is worn. -/
def WDig (l : List Int) : Prop := ∀ x ∈ l, x = -1 ∨ Dig x
def sum10 (f : Nat → Nat) : Nat := ((List.range 10).map f).sum
def cnt (x : Int) (k : Nat) (s t : Int) : Nat := sum10 fun d => if (x = (d : Int) ∨ x < 0) ∧ mulD s (turnN k d) = t then 1 else 0
/-- In how many ways a list can be filled in, by the sum that they lead to. -/
def wyL : List Int → Int → Nat
  | [], t => if t = 0 then 1 else 0
  | x :: l, t => sum10 fun s => cnt x l.length s t * wyL l s
def nW (l : List Int) : Nat := l.countP fun x => decide (x < 0)
theorem sum10_congr {f g : Nat → Nat} (h : ∀ s, s < 10 → f s = g s) : sum10 f = sum10 g := by
  unfold sum10
  congr 1
  exact List.map_congr_left fun s hs => h s (List.mem_range.1 hs)
theorem sum10_ten (f : Nat → Nat) : sum10 f = f 0 + f 1 + f 2 + f 3 + f 4 + f 5 + f 6 + f 7 + f 8 + f 9 := by
  unfold sum10
  rw [show List.range 10 = [0, 1, 2, 3, 4, 5, 6, 7, 8, 9] from rfl]
  simp only [List.map_cons, List.map_nil, List.sum_cons, List.sum_nil]
  omega
theorem sum10_mul (f : Nat → Nat) (c : Nat) : sum10 (fun s => f s * c) = sum10 f * c := by
  rw [sum10_ten, sum10_ten]
  simp only [Nat.add_mul]
theorem sum10_at (f : Nat → Nat) {p : Nat} (hp : p < 10) : sum10 (fun s => f s * (if (s : Int) = (p : Int) then 1 else 0)) = f p := by
  rw [sum10_ten]
  have : p = 0 ∨ p = 1 ∨ p = 2 ∨ p = 3 ∨ p = 4 ∨ p = 5 ∨ p = 6 ∨ p = 7 ∨ p = 8 ∨ p = 9 := by omega
  rcases this with rfl | rfl | rfl | rfl | rfl | rfl | rfl | rfl | rfl | rfl <;> simp
theorem right_fin : ∀ y t : Fin 10, sum10 (fun s => if mulD (s : Int) y.val = (t.val : Int) then 1 else 0) = 1 := by decide +kernel
theorem worn_fin : ∀ (k : Fin 6) (s t : Fin 10), sum10 (fun d => if mulD (s.val : Int) (turnN k.val d) = (t.val : Int) then 1 else 0) = 1 := by decide +kernel
theorem cnt_worn {x : Int} (hx : x < 0) {k : Nat} (hk : k < 6) {s t : Nat} (hs : s < 10) (ht : t < 10) : cnt x k s t = 1 := by
  have := worn_fin ⟨k, hk⟩ ⟨s, hs⟩ ⟨t, ht⟩
  unfold cnt
  refine Eq.trans (sum10_congr fun d _ => ?_) this
  simp only [hx, or_true, true_and]
theorem cnt_dig {x : Nat} (hx : x < 10) (k : Nat) (s t : Int) : cnt x k s t = if mulD s (turnN k x) = t then 1 else 0 := by
  unfold cnt
  refine Eq.trans (sum10_congr fun d hd => ?_) (sum10_at (fun d => if mulD s (turnN k d) = t then 1 else 0) hx)
  by_cases h1 : (d : Int) = (x : Int)
  · have h2 : d = x := by omega
    subst h2
    simp
  · have h2 : ¬ (x : Int) = (d : Int) := fun e => h1 e.symm
    have h3 : ¬ (x : Int) < 0 := by omega
    simp only [h1, h2, h3, false_or, false_and, if_false, Nat.mul_zero]
theorem Dig.nat {x : Int} (h : Dig x) : ∃ n : Nat, n < 10 ∧ x = (n : Int) := by
  obtain ⟨i, rfl⟩ := h.fin
  exact ⟨i.val, i.isLt, rfl⟩
theorem nW_dig {l : List Int} (h : WDig l) (h0 : nW l = 0) : ∀ x ∈ l, Dig x := by
  intro x hx
  rcases h x hx with rfl | hd
  · unfold nW at h0
    rw [List.countP_eq_zero] at h0
    exact absurd (by decide) (h0 _ hx)
  · exact hd
theorem wy_closed : ∀ (l : List Int), WDig l → l.length ≤ 6 → ∀ t : Nat, t < 10 → (nW l = 0 → wyL l t = if (t : Int) = sumL l then 1 else 0) ∧ (nW l ≠ 0 → wyL l t = 10 ^ (nW l - 1))
  | [], _, _, t, ht => ⟨fun _ => rfl, fun h => absurd rfl h⟩
  | x :: l, hw, hl, t, ht => by
    have hw' : WDig l := fun y hy => hw y (List.mem_cons_of_mem _ hy)
    have hk : l.length < 6 := by simp at hl; omega
    have ih := wy_closed l hw' (by omega)
    have hcons : nW (x :: l) = nW l + (if x < 0 then 1 else 0) := by
      unfold nW
      rw [List.countP_cons]
      by_cases h : x < 0 <;> simp [h]
    rw [hcons]
    by_cases h0 : nW l = 0
    · have hd := nW_dig hw' h0
      obtain ⟨p, hp, hpe⟩ := (dig_sum hd).nat
      have e1 : wyL (x :: l) t = cnt x l.length p t := by
        show sum10 _ = _
        rw [← sum10_at (fun s => cnt x l.length s t) hp]
        refine sum10_congr fun s hs => ?_
        rw [(ih s hs).1 h0, hpe]
      rcases hw x (by simp) with hx | hx
      · subst hx
        rw [e1, cnt_worn (by decide) hk hp ht, h0]
        exact ⟨fun h => absurd h (by decide), fun _ => rfl⟩
      · obtain ⟨n, hn, rfl⟩ := hx.nat
        rw [e1, cnt_dig hn, if_neg (by omega), h0, hpe.symm]
        refine ⟨fun _ => ?_, fun h => absurd rfl h⟩
        show _ = if (t : Int) = mulD (sumL l) (turnN l.length n) then 1 else 0
        by_cases h : mulD (sumL l) (turnN l.length n) = (t : Int)
        · rw [if_pos h, if_pos h.symm]
        · rw [if_neg h, if_neg fun e => h e.symm]
    · have e1 : wyL (x :: l) t = sum10 (fun s => cnt x l.length s t) * 10 ^ (nW l - 1) := by
        show sum10 _ = _
        rw [← sum10_mul]
        refine sum10_congr fun s hs => ?_
        rw [(ih s hs).2 h0]
      refine ⟨fun h => absurd h (by omega), fun _ => ?_⟩
      rcases hw x (by simp) with hx | hx
      · subst hx
        have e2 : sum10 (fun s => cnt (-1) l.length s t) = 10 := by
          rw [sum10_congr (g := fun _ => 1) fun s hs => cnt_worn (by decide) hk hs ht]
          rfl
        rw [e1, e2, if_pos (by decide), show nW l + 1 - 1 = nW l - 1 + 1 by omega, Nat.pow_succ, Nat.mul_comm]
      · obtain ⟨n, hn, rfl⟩ := hx.nat
        obtain ⟨y, hy, hye⟩ := (dig_turn hx l.length).nat
        have e2 : sum10 (fun s => cnt n l.length s t) = 1 := by
          rw [← right_fin ⟨y, hy⟩ ⟨t, ht⟩]
          refine sum10_congr fun s hs => ?_
          rw [cnt_dig hn, hye]
        rw [e1, e2, if_neg (by omega), Nat.one_mul, Nat.add_zero]
/-! ### The least way -/
def fill0 (l : List Int) : List Int := l.map fun x => if x < 0 then 0 else x
theorem fill0_dig {l : List Int} (h : WDig l) : ∀ x ∈ fill0 l, Dig x := by
  intro x hx
  obtain ⟨y, hy, rfl⟩ := List.mem_map.1 hx
  rcases h y hy with rfl | hd
  · exact ⟨by decide, by decide⟩
  · rw [if_neg (by have := hd.1; omega)]
    exact hd
theorem exd_fin : ∀ (k : Fin 6) (p q : Fin 10), ∃ d : Fin 10, mulD (mulD p.val (turnN k.val d.val)) q.val = 0 := by decide +kernel
/-- One digit can always be filled in. -/
theorem one_fits {a b : List Int} (ha : ∀ x ∈ a, Dig x) (hb : ∀ x ∈ b, Dig x) (hl : b.length < 6) : ∃ d : Nat, d < 10 ∧ sumL (a ++ (d : Int) :: b) = 0 := by
  obtain ⟨p, hp, hpe⟩ := (dig_sum hb).nat
  obtain ⟨q, hq, hqe⟩ := (dig_sumA ha (b.length + 1)).nat
  obtain ⟨d, hd⟩ := exd_fin ⟨b.length, hl⟩ ⟨p, hp⟩ ⟨q, hq⟩
  refine ⟨d.val, d.isLt, ?_⟩
  have h1 : ∀ x ∈ (d.val : Int) :: b, Dig x := fun x hx => by
    rcases List.mem_cons.1 hx with rfl | hx
    · exact ⟨by omega, by have := d.isLt; omega⟩
    · exact hb x hx
  rw [sum_append ha h1]
  simp only [List.length_cons, sumL]
  rw [hpe, hqe]
  exact hd
end Go.Proofs.YtoenecgjiejljaaDoor
namespace Go.Proofs.YtoenecgjiejljaaDoor
set_option linter.unusedVariables false

theorem rep_k (c d : UInt8) : ∀ l : List UInt8, Lib.replaceK [c] [d] (Lib.count l [c]) l = l.map fun x => if x = c then d else x
  | [] => by
    have : Lib.count [] [c] = 0 := by rw [Lib.count_one]; rfl
    rw [this]; rfl
  | b :: l => by
    have ih := rep_k c d l
    by_cases h : b = c
    · subst h
      rw [Lib.count_cons_eq, Nat.add_comm, Lib.replaceK_hit _ _ _ _ 0 (by simp [Lib.index]), List.map_cons, if_pos rfl, ← ih]
      simp
    · rw [Lib.count_cons_ne b c l h, List.map_cons, if_neg h, ← ih]
      rcases hk : Lib.count l [c] with _ | k
      · rfl
      · obtain ⟨i, hi⟩ := Lib.index_of_count (s := l) (old := [c]) (by omega)
        have e : Lib.index (b :: l) [c] = ((i + 1 : Nat) : Int) := by
          have hp : [c].isPrefixOf (b :: l) = false := by
            show (c == b && _) = false
            rw [show (c == b) = false from beq_eq_false_iff_ne.2 fun e => h e.symm]
            rfl
          rw [Lib.index, hp, hi]
          have : ((i : Int) == -1) = false := beq_eq_false_iff_ne.2 (by omega)
          rw [this]
          simp
        rw [Lib.replaceK_hit _ _ _ _ _ e, Lib.replaceK_hit _ _ _ _ _ hi]
        simp
theorem rep_one {c d : UInt8} (h : c ≠ d) (l : List UInt8) : Lib.replaceAll l [c] [d] = l.map fun x => if x = c then d else x := by
  unfold Lib.replaceAll Lib.replace
  have : ([c] == [d]) = false := beq_eq_false_iff_ne.2 fun e => h (by simpa using e)
  rw [if_neg (by rw [this]; decide), ← rep_k]
  unfold Lib.replaceNum
  rw [if_pos (Or.inl (by decide))]
/-- The least digit that makes the sum 0 between two lists, or 10. -/
def dst (a b : List Int) : Nat := ((List.range 10).find? fun d : Nat => decide (sumL (a ++ (d : Int) :: b) = 0)).getD 10
theorem dst_lt {a b : List Int} (ha : ∀ x ∈ a, Dig x) (hb : ∀ x ∈ b, Dig x) (hl : b.length < 6) : dst a b < 10 ∧ sumL (a ++ (dst a b : Int) :: b) = 0 := by
  obtain ⟨d, hd, hs⟩ := one_fits ha hb hl
  unfold dst
  cases hf : (List.range 10).find? fun d : Nat => decide (sumL (a ++ (d : Int) :: b) = 0) with
  | none =>
    have := List.find?_eq_none.1 hf d (List.mem_range.2 hd)
    simp [hs] at this
  | some e =>
    have h1 := List.mem_range.1 (List.mem_of_find?_eq_some hf)
    have h2 := List.find?_some hf
    simp only [decide_eq_true_eq] at h2
    exact ⟨h1, h2⟩
theorem nat_dig {d : Nat} (h : d < 10) : Dig (d : Int) := ⟨by omega, by omega⟩
/-- It is the only one. -/
theorem dst_is {a b : List Int} (ha : ∀ x ∈ a, Dig x) (hb : ∀ x ∈ b, Dig x) (hl : b.length < 6) {d : Nat} (hd : d < 10) : sumL (a ++ (d : Int) :: b) = 0 ↔ d = dst a b := by
  obtain ⟨h1, h2⟩ := dst_lt ha hb hl
  constructor
  · intro h
    have := sum_wrong ha hb (nat_dig hd) (nat_dig h1) (h.trans h2.symm)
    omega
  · rintro rfl; exact h2
/-- From the left on: what is worn becomes 0, the last one what the sum asks. -/
def gr : List Int → List Int → List Int
  | a, [] => a
  | a, x :: r => if x < 0 then gr (a ++ [if nW r = 0 then (dst a r : Int) else 0]) r else gr (a ++ [x]) r
theorem nW_cons (x : Int) (l : List Int) : nW (x :: l) = nW l + (if x < 0 then 1 else 0) := by
  unfold nW
  rw [List.countP_cons]
  by_cases h : x < 0 <;> simp [h]
theorem nW_append (a b : List Int) : nW (a ++ b) = nW a + nW b := by unfold nW; rw [List.countP_append]
theorem gr_dig : ∀ (b a : List Int), nW b = 0 → gr a b = a ++ b
  | [], a, _ => by simp [gr]
  | x :: b, a, h => by
    rw [nW_cons] at h
    have hx : ¬ x < 0 := by intro h0; rw [if_pos h0] at h; omega
    rw [if_neg hx] at h
    rw [gr, if_neg hx, gr_dig b _ (by omega)]
    simp
theorem gr_split : ∀ (a a0 b : List Int), nW b = 0 → gr a0 (a ++ (-1) :: b) = (a0 ++ fill0 a) ++ (dst (a0 ++ fill0 a) b : Int) :: b
  | [], a0, b, h => by
    show gr a0 ((-1) :: b) = _
    rw [gr, if_pos (by decide), if_pos h, gr_dig b _ h]
    simp [fill0]
  | x :: a, a0, b, h => by
    show gr a0 (x :: (a ++ (-1) :: b)) = _
    have hn : nW (a ++ (-1) :: b) ≠ 0 := by rw [nW_append, nW_cons]; simp
    by_cases hx : x < 0
    · rw [gr, if_pos hx, if_neg hn, gr_split a _ b h]
      have : fill0 (x :: a) = 0 :: fill0 a := by simp [fill0, hx]
      rw [this]
      simp
    · rw [gr, if_neg hx, gr_split a _ b h]
      have : fill0 (x :: a) = x :: fill0 a := by simp [fill0, hx]
      rw [this]
      simp
/-- Behind the last worn digit there is none. -/
theorem last_worn : ∀ l : List Int, WDig l → nW l ≠ 0 → ∃ a b, l = a ++ (-1) :: b ∧ nW b = 0
  | [], _, h => absurd rfl h
  | x :: l, hw, h => by
    by_cases h0 : nW l = 0
    · rw [nW_cons, h0] at h
      rcases hw x (by simp) with rfl | hd
      · exact ⟨[], l, rfl, h0⟩
      · exact absurd (by rw [if_neg (by have := hd.1; omega)]) h
    · obtain ⟨a, b, he, hb⟩ := last_worn l (fun y hy => hw y (List.mem_cons_of_mem _ hy)) h0
      exact ⟨x :: a, b, by rw [he]; rfl, hb⟩
theorem wdig_parts {a b : List Int} (h : WDig (a ++ (-1) :: b)) (hb : nW b = 0) : WDig a ∧ (∀ x ∈ b, Dig x) :=
  ⟨fun x hx => h x (by simp [hx]), nW_dig (fun x hx => h x (by simp [hx])) hb⟩
theorem fill0_none {l : List Int} (h : nW l = 0) : fill0 l = l := by
  unfold fill0
  conv => rhs; rw [← List.map_id l]
  refine List.map_congr_left fun x hx => ?_
  unfold nW at h
  rw [List.countP_eq_zero] at h
  have := h x hx
  simp only [decide_eq_true_eq] at this
  rw [if_neg this]
  rfl
theorem fill0_append (a b : List Int) : fill0 (a ++ b) = fill0 a ++ fill0 b := by simp [fill0]
/-- All filled in by 0: where that makes a ring, it is the least one. -/
theorem gr_lowest {l : List Int} (hw : WDig l) (hl : l.length ≤ 6) (h : sumL (fill0 l) = 0) : gr [] l = fill0 l := by
  by_cases h0 : nW l = 0
  · rw [gr_dig l [] h0, fill0_none h0]; rfl
  · obtain ⟨a, b, rfl, hb⟩ := last_worn l hw h0
    obtain ⟨ha, hbd⟩ := wdig_parts hw hb
    rw [gr_split a [] b hb]
    have e : fill0 (a ++ (-1) :: b) = fill0 a ++ ((0 : Nat) : Int) :: b := by
      rw [fill0_append]
      show fill0 a ++ ((if (-1 : Int) < 0 then 0 else -1) :: fill0 b) = _
      rw [fill0_none hb]
      rfl
    rw [e] at h ⊢
    have hlen : b.length < 6 := by simp at hl; omega
    have := (dst_is (fill0_dig ha) hbd hlen (by decide : 0 < 10)).1 h
    rw [List.nil_append, ← this]
end Go.Proofs.YtoenecgjiejljaaDoor

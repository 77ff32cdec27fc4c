/-
  Worn digits: in how many ways they can be filled in, and the least way. No program in sight.
-/
import Derived.Test.YtoenecgjiejljaaDoorDig
namespace Go.Proofs.YtoenecgjiejljaaDoor
set_option linter.unusedVariables false

/-- What is at a place, or -1 where it is worn. -/
def WDig (l : List Int) : Prop := ∀ x ∈ l, x = -1 ∨ Dig x
def sum10 (f : Nat → Nat) : Nat := ((List.range 10).map f).sum
def cnt (x : Int) (k : Nat) (s t : Int) : Nat := sum10 fun d => if (x = (d : Int) ∨ x < 0) ∧ mulD s (turnN k d) = t then 1 else 0
/-- In how many ways a list can be filled in, by the sum that they lead to. -/
def wyL : List Int → Int → Nat
  | [], t => if t = 0 then 1 else 0
  | x :: l, t => sum10 fun s => cnt x l.length s t * wyL l s
def nW (l : List Int) : Nat := l.countP fun x => decide (x < 0)
theorem sum10_congr {f g : Nat → Nat} (h : ∀ s, s < 10 → f s = g s) : sum10 f = sum10 g := by
  unfold sum10
  congr 1
  exact List.map_congr_left fun s hs => h s (List.mem_range.1 hs)
theorem sum10_ten (f : Nat → Nat) : sum10 f = f 0 + f 1 + f 2 + f 3 + f 4 + f 5 + f 6 + f 7 + f 8 + f 9 := by
  unfold sum10
  rw [show List.range 10 = [0, 1, 2, 3, 4, 5, 6, 7, 8, 9] from rfl]
  simp only [List.map_cons, List.map_nil, List.sum_cons, List.sum_nil]
  omega
theorem sum10_mul (f : Nat → Nat) (c : Nat) : sum10 (fun s => f s * c) = sum10 f * c := by
  rw [sum10_ten, sum10_ten]
  simp only [Nat.add_mul]
theorem sum10_at (f : Nat → Nat) {p : Nat} (hp : p < 10) : sum10 (fun s => f s * (if (s : Int) = (p : Int) then 1 else 0)) = f p := by
  rw [sum10_ten]
  have : p = 0 ∨ p = 1 ∨ p = 2 ∨ p = 3 ∨ p = 4 ∨ p = 5 ∨ p = 6 ∨ p = 7 ∨ p = 8 ∨ p = 9 := by omega
  rcases this with rfl | rfl | rfl | rfl | rfl | rfl | rfl | rfl | rfl | rfl <;> simp
theorem right_fin : ∀ y t : Fin 10, sum10 (fun s => if mulD (s : Int) y.val = (t.val : Int) then 1 else 0) = 1 := by decide +kernel
theorem worn_fin : ∀ (k : Fin 6) (s t : Fin 10), sum10 (fun d => if mulD (s.val : Int) (turnN k.val d) = (t.val : Int) then 1 else 0) = 1 := by decide +kernel
theorem cnt_worn {x : Int} (hx : x < 0) {k : Nat} (hk : k < 6) {s t : Nat} (hs : s < 10) (ht : t < 10) : cnt x k s t = 1 := by
  have := worn_fin ⟨k, hk⟩ ⟨s, hs⟩ ⟨t, ht⟩
  unfold cnt
  refine Eq.trans (sum10_congr fun d _ => ?_) this
  simp only [hx, or_true, true_and]
theorem cnt_dig {x : Nat} (hx : x < 10) (k : Nat) (s t : Int) : cnt x k s t = if mulD s (turnN k x) = t then 1 else 0 := by
  unfold cnt
  refine Eq.trans (sum10_congr fun d hd => ?_) (sum10_at (fun d => if mulD s (turnN k d) = t then 1 else 0) hx)
  by_cases h1 : (d : Int) = (x : Int)
  · have h2 : d = x := by omega
    subst h2
    simp
  · have h2 : ¬ (x : Int) = (d : Int) := fun e => h1 e.symm
    have h3 : ¬ (x : Int) < 0 := by omega
    simp only [h1, h2, h3, false_or, false_and, if_false, Nat.mul_zero]
theorem Dig.nat {x : Int} (h : Dig x) : ∃ n : Nat, n < 10 ∧ x = (n : Int) := by
  obtain ⟨i, rfl⟩ := h.fin
  exact ⟨i.val, i.isLt, rfl⟩
theorem nW_dig {l : List Int} (h : WDig l) (h0 : nW l = 0) : ∀ x ∈ l, Dig x := by
  intro x hx
  rcases h x hx with rfl | hd
  · unfold nW at h0
    rw [List.countP_eq_zero] at h0
    exact absurd (by decide) (h0 _ hx)
  · exact hd
theorem wy_closed : ∀ (l : List Int), WDig l → l.length ≤ 6 → ∀ t : Nat, t < 10 → (nW l = 0 → wyL l t = if (t : Int) = sumL l then 1 else 0) ∧ (nW l ≠ 0 → wyL l t = 10 ^ (nW l - 1))
  | [], _, _, t, ht => ⟨fun _ => rfl, fun h => absurd rfl h⟩
  | x :: l, hw, hl, t, ht => by
    have hw' : WDig l := fun y hy => hw y (List.mem_cons_of_mem _ hy)
    have hk : l.length < 6 := by simp at hl; omega
    have ih := wy_closed l hw' (by omega)
    have hcons : nW (x :: l) = nW l + (if x < 0 then 1 else 0) := by
      unfold nW
      rw [List.countP_cons]
      by_cases h : x < 0 <;> simp [h]
    rw [hcons]
    by_cases h0 : nW l = 0
    · have hd := nW_dig hw' h0
      obtain ⟨p, hp, hpe⟩ := (dig_sum hd).nat
      have e1 : wyL (x :: l) t = cnt x l.length p t := by
        show sum10 _ = _
        rw [← sum10_at (fun s => cnt x l.length s t) hp]
        refine sum10_congr fun s hs => ?_
        rw [(ih s hs).1 h0, hpe]
      rcases hw x (by simp) with hx | hx
      · subst hx
        rw [e1, cnt_worn (by decide) hk hp ht, h0]
        exact ⟨fun h => absurd h (by decide), fun _ => rfl⟩
      · obtain ⟨n, hn, rfl⟩ := hx.nat
        rw [e1, cnt_dig hn, if_neg (by omega), h0, hpe.symm]
        refine ⟨fun _ => ?_, fun h => absurd rfl h⟩
        show _ = if (t : Int) = mulD (sumL l) (turnN l.length n) then 1 else 0
        by_cases h : mulD (sumL l) (turnN l.length n) = (t : Int)
        · rw [if_pos h, if_pos h.symm]
        · rw [if_neg h, if_neg fun e => h e.symm]
    · have e1 : wyL (x :: l) t = sum10 (fun s => cnt x l.length s t) * 10 ^ (nW l - 1) := by
        show sum10 _ = _
        rw [← sum10_mul]
        refine sum10_congr fun s hs => ?_
        rw [(ih s hs).2 h0]
      refine ⟨fun h => absurd h (by omega), fun _ => ?_⟩
      rcases hw x (by simp) with hx | hx
      · subst hx
        have e2 : sum10 (fun s => cnt (-1) l.length s t) = 10 := by
          rw [sum10_congr (g := fun _ => 1) fun s hs => cnt_worn (by decide) hk hs ht]
          rfl
        rw [e1, e2, if_pos (by decide), show nW l + 1 - 1 = nW l - 1 + 1 by omega, Nat.pow_succ, Nat.mul_comm]
      · obtain ⟨n, hn, rfl⟩ := hx.nat
        obtain ⟨y, hy, hye⟩ := (dig_turn hx l.length).nat
        have e2 : sum10 (fun s => cnt n l.length s t) = 1 := by
          rw [← right_fin ⟨y, hy⟩ ⟨t, ht⟩]
          refine sum10_congr fun s hs => ?_
          rw [cnt_dig hn, hye]
        rw [e1, e2, if_neg (by omega), Nat.one_mul, Nat.add_zero]
/-! ### The least way -/
def fill0 (l : List Int) : List Int := l.map fun x => if x < 0 then 0 else x
theorem fill0_dig {l : List Int} (h : WDig l) : ∀ x ∈ fill0 l, Dig x := by
  intro x hx
  obtain ⟨y, hy, rfl⟩ := List.mem_map.1 hx
  rcases h y hy with rfl | hd
  · exact ⟨by decide, by decide⟩
  · rw [if_neg (by have := hd.1; omega)]
    exact hd
theorem exd_fin : ∀ (k : Fin 6) (p q : Fin 10), ∃ d : Fin 10, mulD (mulD p.val (turnN k.val d.val)) q.val = 0 := by decide +kernel
/-- One digit can always be filled in. -/
theorem one_fits {a b : List Int} (ha : ∀ x ∈ a, Dig x) (hb : ∀ x ∈ b, Dig x) (hl : b.length < 6) : ∃ d : Nat, d < 10 ∧ sumL (a ++ (d : Int) :: b) = 0 := by
  obtain ⟨p, hp, hpe⟩ := (dig_sum hb).nat
  obtain ⟨q, hq, hqe⟩ := (dig_sumA ha (b.length + 1)).nat
  obtain ⟨d, hd⟩ := exd_fin ⟨b.length, hl⟩ ⟨p, hp⟩ ⟨q, hq⟩
  refine ⟨d.val, d.isLt, ?_⟩
  have h1 : ∀ x ∈ (d.val : Int) :: b, Dig x := fun x hx => by
    rcases List.mem_cons.1 hx with rfl | hx
    · exact ⟨by omega, by have := d.isLt; omega⟩
    · exact hb x hx
  rw [sum_append ha h1]
  simp only [List.length_cons, sumL]
  rw [hpe, hqe]
  exact hd
end Go.Proofs.YtoenecgjiejljaaDoor

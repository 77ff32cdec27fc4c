/-
  Sorting by insertion, by a key, equal ones in their order; the code for lengths. No program in sight. No condition.
-/
import Derived.Test.YtjongjndoaojnaaSg1
namespace Go.Proofs.Ytjongjndoaojnaa
set_option linter.unusedVariables false
section
variable {α : Type}
/-- Put in before the first one with a greater key. -/
def ins (key : α → Int) (x : α) : List α → List α
  | [] => [x]
  | y :: r => if key x < key y then x :: y :: r else y :: ins key x r
def srt (key : α → Int) (l : List α) : List α := l.foldl (fun P x => ins key x P) []
theorem ins_at {key : α → Int} {x : α} {B : List α} (hB : ∀ y ∈ B, key x < key y) : ∀ {A : List α}, (∀ y ∈ A, key y ≤ key x) → ins key x (A ++ B) = A ++ x :: B
  | [], _ => by
    cases B with
    | nil => rfl
    | cons b r => exact if_pos (hB b (List.mem_cons_self ..))
  | y :: A, h => by
    rw [List.cons_append, ins, if_neg (by have := h y (List.mem_cons_self ..); omega), ins_at hB (fun z hz => h z (List.mem_cons_of_mem _ hz))]
    rfl
theorem ins_perm (key : α → Int) (x : α) : ∀ l : List α, (ins key x l).Perm (x :: l)
  | [] => List.Perm.refl _
  | y :: r => by
    unfold ins
    by_cases h : key x < key y
    · rw [if_pos h]
    · rw [if_neg h]
      exact ((ins_perm key x r).cons y).trans (List.Perm.swap x y r)
theorem ins_sorted {key : α → Int} {x : α} : ∀ {l : List α}, l.Pairwise (fun a b => key a ≤ key b) → (ins key x l).Pairwise (fun a b => key a ≤ key b)
  | [], _ => List.pairwise_singleton _ _
  | y :: r, h => by
    obtain ⟨h1, h2⟩ := List.pairwise_cons.1 h
    unfold ins
    by_cases hx : key x < key y
    · rw [if_pos hx]
      refine List.pairwise_cons.2 ⟨fun z hz => ?_, h⟩
      rcases List.mem_cons.1 hz with rfl | hz
      · omega
      · have := h1 z hz; omega
    · rw [if_neg hx]
      refine List.pairwise_cons.2 ⟨fun z hz => ?_, ins_sorted h2⟩
      rcases List.mem_cons.1 ((ins_perm key x r).mem_iff.1 hz) with rfl | hz
      · omega
      · exact h1 z hz
theorem srt_snoc (key : α → Int) (l : List α) (x : α) : srt key (l ++ [x]) = ins key x (srt key l) := by
  unfold srt
  rw [List.foldl_append]
  rfl
theorem srt_go {key : α → Int} : ∀ (l P : List α), (l.foldl (fun P x => ins key x P) P).Perm (P ++ l)
  | [], P => by simp
  | x :: r, P => by
    refine (srt_go r (ins key x P)).trans ?_
    refine (((ins_perm key x P).append_right r)).trans ?_
    exact List.perm_middle.symm
theorem srt_perm (key : α → Int) (l : List α) : (srt key l).Perm l := by
  have := srt_go (key := key) l []
  rw [List.nil_append] at this
  exact this
theorem srt_sorted_go {key : α → Int} : ∀ (l P : List α), P.Pairwise (fun a b => key a ≤ key b) → (l.foldl (fun P x => ins key x P) P).Pairwise (fun a b => key a ≤ key b)
  | [], P, h => h
  | x :: r, P, h => srt_sorted_go r _ (ins_sorted h)
theorem srt_sorted (key : α → Int) (l : List α) : (srt key l).Pairwise (fun a b => key a ≤ key b) := srt_sorted_go l [] List.Pairwise.nil
theorem srt_len (key : α → Int) (l : List α) : (srt key l).length = l.length := (srt_perm key l).length_eq
theorem ins_len (key : α → Int) (x : α) (l : List α) : (ins key x l).length = l.length + 1 := (ins_perm key x l).length_eq
/-- One round of a sort by insertion: how far the new one has gone. -/
structure Rnd (key : α → Int) (P : List α) (x : α) (j : Nat) : Prop where
  le : j ≤ P.length
  up : ∀ y ∈ P.drop j, key x < key y
theorem Rnd.start (key : α → Int) (P : List α) (x : α) : Rnd key P x P.length := ⟨Nat.le_refl _, by simp⟩
theorem Rnd.next {key : α → Int} {P : List α} {x y : α} {j : Nat} (h : Rnd key P x (j + 1)) (hy : P[j]? = some y) (hl : key x < key y) : Rnd key P x j := by
  obtain ⟨hj, he⟩ := List.getElem?_eq_some_iff.1 hy
  refine ⟨by omega, fun z hz => ?_⟩
  rw [List.drop_eq_getElem_cons hj, he] at hz
  rcases List.mem_cons.1 hz with rfl | hz
  · exact hl
  · exact h.up z hz
theorem Rnd.done {key : α → Int} {P : List α} {x : α} {j : Nat} (hs : P.Pairwise (fun a b => key a ≤ key b)) (h : Rnd key P x j) (he : j = 0 ∨ ∃ y, P[j - 1]? = some y ∧ ¬ key x < key y) : P.take j ++ x :: P.drop j = ins key x P := by
  conv => rhs; rw [← List.take_append_drop j P]
  refine (ins_at h.up fun z hz => ?_).symm
  rcases he with rfl | ⟨y, hy, hn⟩
  · simp at hz
  · obtain ⟨i, hi, hz⟩ := List.getElem_of_mem hz
    rw [List.length_take] at hi
    rw [List.getElem_take] at hz
    obtain ⟨hj, hye⟩ := List.getElem?_eq_some_iff.1 hy
    by_cases hij : i = j - 1
    · subst hij
      rw [hye] at hz
      subst hz
      omega
    · have := List.pairwise_iff_getElem.1 hs i (j - 1) (by omega) hj (by omega)
      rw [hye, hz] at this
      omega
end

/-! ### The code for lengths -/
def lenB (l : List Int) : Bool := (decide (1 ≤ l.length) && decide (l.length ≤ 12)) && l.all fun x => decide (1 ≤ x) && decide (x ≤ 12)
/-- The sum of 2^-length, in units of 2^-12. -/
def fil (l : List Int) : Nat := (l.map fun x => 2 ^ (12 - x.toNat)).sum
/-- A fraction over 2^n, in lowest terms. -/
def red : Nat → Nat → Nat × Nat
  | 0, a => (a, 1)
  | n + 1, a => if a % 2 = 0 then red n (a / 2) else (a, 2 ^ (n + 1))
theorem red_mul : ∀ (n a : Nat), ∃ k, k ≤ n ∧ (red n a).2 = 2 ^ (n - k) ∧ a = (red n a).1 * 2 ^ k
  | 0, a => ⟨0, Nat.le_refl _, rfl, by simp [red]⟩
  | n + 1, a => by
    unfold red
    by_cases h : a % 2 = 0
    · rw [if_pos h]
      obtain ⟨k, hk, h1, h2⟩ := red_mul n (a / 2)
      refine ⟨k + 1, by omega, by rw [h1, Nat.add_sub_add_right], ?_⟩
      rw [Nat.pow_succ, ← Nat.mul_assoc, ← h2]
      omega
    · rw [if_neg h]
      exact ⟨0, by omega, by simp, by simp⟩
theorem red_gt (n a : Nat) : ((red n a).2 < (red n a).1) ↔ 2 ^ n < a := by
  obtain ⟨k, hk, h1, h2⟩ := red_mul n a
  rw [h1]
  have e : 2 ^ n = 2 ^ (n - k) * 2 ^ k := by rw [← Nat.pow_add]; congr 1; omega
  have hp : 0 < 2 ^ k := Nat.pow_pos (by decide)
  rw [e]
  conv => rhs; rhs; rw [h2]
  exact (Nat.mul_lt_mul_right hp).symm
/-- The notes of a number. -/
def sgN (v n : Nat) : ByteArray := ⟨((List.range n).map fun j => if v.testBit (n - 1 - j) then (45 : UInt8) else 46).toArray⟩
theorem sgN_size (v n : Nat) : (sgN v n).size = n := by simp [sgN, ByteArray.size]
def lenAt (l : List Int) (i : Nat) : Nat := (l.getD i 0).toNat
/-- The indexes of lengths, the smallest length first. -/
def ordL (l : List Int) : List Nat := srt (fun i => l.getD i 0) (List.range l.length)
/-- What comes before the k-th one, in units of 2^-12. -/
def befK (l : List Int) (k : Nat) : Nat := (((ordL l).take k).map fun i => 2 ^ (12 - lenAt l i)).sum
/-- The signals of the first k ones, at their places. -/
def codK (l : List Int) : Nat → Nat → ByteArray
  | 0, _ => ⟨#[]⟩
  | t + 1, i => if (ordL l)[t]? = some i then sgN (befK l t / 2 ^ (12 - lenAt l i)) (lenAt l i) else codK l t i
def codL (l : List Int) : List ByteArray := (List.range l.length).map (codK l l.length)
theorem known_code : codL [2, 1, 2] = [⟨#[45, 46]⟩, ⟨#[46]⟩, ⟨#[45, 45]⟩] := by decide +kernel
end Go.Proofs.Ytjongjndoaojnaa

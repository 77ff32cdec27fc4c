/-
  Winds that are apart: lists in ascending order are the sets they hold; how many winds of a list an arc has. No walk.
-/
import Derived.Test.YtfokmgogbjifbaaWi17
import Derived.Test.YtfokmgogbjifbaaWb4
namespace Go.Proofs.Ytfokmgogbjifbaa
open Go.RowKit
set_option linter.unusedVariables false

theorem sorted_ext : ∀ {L M : List Int}, L.Pairwise (· < ·) → M.Pairwise (· < ·) → (∀ x, x ∈ L ↔ x ∈ M) → L = M
  | [], [], _, _, _ => rfl
  | [], b :: M, _, _, h => by have := (h b).2 List.mem_cons_self; cases this
  | a :: L, [], _, _, h => by have := (h a).1 List.mem_cons_self; cases this
  | a :: L, b :: M, hl, hm, h => by
    rw [List.pairwise_cons] at hl hm
    have hab : a = b := by
      rcases List.mem_cons.1 ((h a).1 List.mem_cons_self) with h1 | h1
      · exact h1
      · rcases List.mem_cons.1 ((h b).2 List.mem_cons_self) with h2 | h2
        · exact h2.symm
        · have := hm.1 a h1
          have := hl.1 b h2
          omega
    subst hab
    congr 1
    refine sorted_ext hl.2 hm.2 fun x => ?_
    constructor
    · intro hx
      rcases List.mem_cons.1 ((h x).1 (List.mem_cons_of_mem _ hx)) with h1 | h1
      · have := hl.1 x hx
        omega
      · exact h1
    · intro hx
      rcases List.mem_cons.1 ((h x).2 (List.mem_cons_of_mem _ hx)) with h1 | h1
      · have := hm.1 x hx
        omega
      · exact h1
theorem setL_pair {lim : Int} {L : List Int} (h : setL lim L = true) : L.Pairwise (· < ·) := by
  have key : ∀ j, j < L.length → ∀ i, i < j → L.getD i 0 < L.getD j 0 := by
    intro j
    induction j with
    | zero => intro _ i hi; omega
    | succ j ih =>
      intro hj i hi
      have h1 := setL_at h hj
      unfold okI prv at h1
      rw [if_neg (by omega), Nat.add_sub_cancel, Bool.and_eq_true, decide_eq_true_eq, decide_eq_true_eq] at h1
      rcases Nat.lt_or_ge i j with h2 | h2
      · have := ih (by omega) i h2
        omega
      · obtain rfl : i = j := by omega
        exact h1.1
  rw [List.pairwise_iff_getElem]
  intro i j hi hj hij
  have := key j hj i hij
  rwa [getD_at (List.getElem?_eq_getElem hi), getD_at (List.getElem?_eq_getElem hj)] at this
theorem listK_pair (f : Nat → Bool) (k : Nat) : (listK f k).Pairwise (· < ·) := by
  unfold listK
  rw [List.pairwise_map]
  refine List.Pairwise.imp (fun {a b} h => ?_) (List.Pairwise.filter _ List.pairwise_lt_range)
  exact Int.ofNat_lt.2 h
/-- A list in ascending order is the list of what it holds. -/
theorem setL_list {k : Nat} {L : List Int} (h : setL (k : Int) L = true) : listK (memB L) k = L :=
  sorted_ext (listK_pair _ _) (setL_pair h) fun x => by
    constructor
    · intro hx
      obtain ⟨j, rfl, _, hf⟩ := listK_mem hx
      exact memB_iff.1 hf
    · intro hx
      obtain ⟨h0, h1⟩ := set_mem h hx
      obtain ⟨j, rfl⟩ := Int.eq_ofNat_of_zero_le h0
      refine List.mem_map.2 ⟨j, ?_, rfl⟩
      rw [List.mem_filter]
      exact ⟨List.mem_range.2 (by omega), memB_iff.2 hx⟩
theorem listK_filter (f g : Nat → Bool) : ∀ k, ((listK f k).filter fun d => g d.toNat).length = cntK (fun j => f j && g j) k
  | 0 => rfl
  | k + 1 => by
    rw [cntK]
    cases h : f k
    · rw [listK_no h, listK_filter f g k]; rfl
    · rw [listK_yes h, List.filter_append, List.length_append, listK_filter f g k]
      cases hg : g k <;> simp [hg]
/-- How many winds of a list an arc has; and of its first k. -/
def apC (L : List Int) (a : Pt) : Nat := cntK (fun j => memB L j && hasN a j) 32
def apK (L : List Int) (a : Pt) (k : Nat) : Nat := ((L.take k).filter fun d => hasN a d.toNat).length
theorem apK_all {L : List Int} (h : setL 32 L = true) (a : Pt) : apK L a L.length = apC L a := by
  have e := setL_list (k := 32) h
  have e2 := listK_filter (memB L) (hasN a) 32
  rw [e] at e2
  unfold apK apC
  rw [List.take_length, e2]
theorem apK_next {L : List Int} {k : Nat} {d : Int} (h : L[k]? = some d) (a : Pt) : apK L a (k + 1) = apK L a k + if hasN a d.toNat then 1 else 0 := by
  unfold apK
  rw [List.take_add_one, h, List.filter_append, List.length_append]
  congr 1
  cases hb : hasN a d.toNat <;> simp [hb]
theorem apK_le (L : List Int) (a : Pt) (k : Nat) : apK L a k ≤ k := by
  unfold apK
  have h1 := List.length_filter_le (fun d : Int => hasN a d.toNat) (L.take k)
  have h2 := List.length_take_le k L
  omega
def apB (l : List Pt) (L : List Int) : Bool := l.all fun a => decide (apC L a ≤ 1)
theorem apB_bad {l : List Pt} {L : List Int} {k : Nat} {a : Pt} (hx : l[k]? = some a) (h : 1 < apC L a) : apB l L = false := by
  unfold apB
  rw [List.all_eq_false]
  exact ⟨a, List.mem_of_getElem? hx, by simp; omega⟩
theorem apB_ok {l : List Pt} {L : List Int} (h : ∀ (j : Nat) a, j < l.length → l[j]? = some a → apC L a ≤ 1) : apB l L = true := by
  unfold apB
  refine List.all_eq_true.2 fun p hp => ?_
  obtain ⟨j, hj, he⟩ := List.getElem_of_mem hp
  exact decide_eq_true (h j p hj (by rw [← he]; exact List.getElem?_eq_getElem hj))
def apR : Bool → Int
  | true => 0
  | false => 7
def apE (l : List Pt) (L : List Int) : Int := if pipesE l = 0 then (if setL 32 L then apR (apB l L) else 1) else pipesE l
theorem shl32 {k : Nat} (hk : k < 32) : (2 : Int) ^ k % 4294967296 = ((2 ^ k : Nat) : Int) := by
  have h2 : 2 ^ k < 2 ^ 32 := Nat.pow_lt_pow_right (by omega) (by omega)
  have e : (2 : Int) ^ k = ((2 ^ k : Nat) : Int) := by simp
  rw [e]
  have e2 : (2 : Nat) ^ 32 = 4294967296 := by decide
  rw [e2] at h2
  generalize 2 ^ k = P at *
  omega
theorem gat32 {L : List Int} {k n : Nat} (h : L[k]? = some (n : Int)) (hn : n < 32) : bits .or .u32 ((gatN (L.take k) : Nat) : Int) ((2 ^ n : Nat) : Int) = ((gatN (L.take (k + 1)) : Nat) : Int) := by
  have h2 : 2 ^ n < 2 ^ 32 := Nat.pow_lt_pow_right (by omega) (by omega)
  have h3 : 2 ^ n < 4294967296 := h2
  have hg : gatN (L.take k) < 4294967296 := bit32 _
  rw [u32_or_nat _ _ hg h3]
  congr 1
  refine ext32 (show _ < 2 ^ 32 from Nat.or_lt_two_pow hg h3) (bit32 _) fun j hj => ?_
  unfold gatN
  rw [Nat.testBit_or, bitK_test _ _ _ hj, bitK_test _ _ _ hj, memB_next h, Nat.testBit_two_pow]
/-- The winds of a set that an arc has. -/
def apN (L : List Int) (a : Pt) : Nat := bitK (fun j => memB L j && hasN a j) 32
theorem ap_and (L : List Int) (a : Pt) : bits .and .u32 ((gatN L : Nat) : Int) ((arcN a : Nat) : Int) = ((apN L a : Nat) : Int) := by
  rw [u32_and_nat (gatN L) (arcN a) (bit32 _) (arcN_lt a), arcN_is]
  unfold gatN apN
  rw [bitK_and]
theorem ap_len (L : List Int) (a : Pt) : (listB (apN L a).testBit).length = apC L a := by
  unfold listB
  rw [cntK_list]
  exact cntK_congr fun j hj => bitK_test _ _ _ hj
end Go.Proofs.Ytfokmgogbjifbaa

/-
  Lists that are sets, the sets as numbers, the lists of their places. No program in sight.
-/
import Derived.Test.YtfmhanpibgmgfaaWb1
import Derived.Test.YtfmhanpibgmgfaaMem
import Derived.Laws.ShiftsVarLaws
namespace Go.Proofs.Ytfmhanpibgmgfaa
open Go.RowKit
set_option linter.unusedVariables false

def prv (L : List Int) (k : Nat) : Int := if k = 0 then -1 else L.getD (k - 1) 0
def okI (lim : Int) (L : List Int) (k : Nat) : Bool := decide (prv L k < L.getD k 0) && decide (L.getD k 0 < lim)
def setL (lim : Int) (L : List Int) : Bool := (List.range L.length).all (okI lim L)
theorem setL_bad {lim : Int} {L : List Int} {k : Nat} (hk : k < L.length) (h : okI lim L k = false) : setL lim L = false := by
  unfold setL
  rw [List.all_eq_false]
  exact ⟨k, List.mem_range.2 hk, by simp [h]⟩
theorem setL_ok {lim : Int} {L : List Int} (h : ∀ k, k < L.length → okI lim L k = true) : setL lim L = true := by
  unfold setL
  rw [List.all_eq_true]
  exact fun k hk => h k (List.mem_range.1 hk)
theorem setL_at {lim : Int} {L : List Int} (h : setL lim L = true) {k : Nat} (hk : k < L.length) : okI lim L k = true := by
  unfold setL at h
  exact List.all_eq_true.1 h k (List.mem_range.2 hk)
theorem getD_at {L : List Int} {k : Nat} {d : Int} (h : L[k]? = some d) : L.getD k 0 = d := by rw [List.getD_eq_getElem?_getD, h]; rfl
theorem ok_pos {lim : Int} {L : List Int} {k : Nat} (h : ∀ j, j ≤ k → okI lim L j = true) : 0 ≤ L.getD k 0 := by
  induction k with
  | zero =>
    have := h 0 (Nat.le_refl _)
    unfold okI prv at this
    simp at this ⊢
    omega
  | succ k ih =>
    have h1 := h (k + 1) (Nat.le_refl _)
    have h2 := ih fun j hj => h j (by omega)
    unfold okI prv at h1
    simp at h1 h2 ⊢
    omega
theorem set_in {lim : Int} {L : List Int} (h : setL lim L = true) {k : Nat} {d : Int} (hd : L[k]? = some d) : 0 ≤ d ∧ d < lim := by
  have hk := (List.getElem?_eq_some_iff.1 hd).1
  have h1 := ok_pos (lim := lim) (L := L) (k := k) fun j hj => setL_at h (by omega)
  have h2 := setL_at h hk
  unfold okI at h2
  rw [getD_at hd] at h1 h2
  rw [Bool.and_eq_true, decide_eq_true_eq, decide_eq_true_eq] at h2
  exact ⟨h1, h2.2⟩
theorem set_mem {lim : Int} {L : List Int} (h : setL lim L = true) {d : Int} (hd : d ∈ L) : 0 ≤ d ∧ d < lim := by
  obtain ⟨k, hk, he⟩ := List.getElem_of_mem hd
  exact set_in h (k := k) (by rw [← he]; exact List.getElem?_eq_getElem hk)
theorem prv_next {L : List Int} {k : Nat} {d : Int} (h : L[k]? = some d) : prv L (k + 1) = d := by
  unfold prv
  rw [if_neg (by omega), Nat.add_sub_cancel, getD_at h]
/-- The numbers below k that belong to a set, in ascending order. -/
def listK (f : Nat → Bool) (k : Nat) : List Int := ((List.range k).filter f).map fun (j : Nat) => (j : Int)
def listB (f : Nat → Bool) : List Int := listK f 32
theorem listK_zero (f : Nat → Bool) : listK f 0 = [] := rfl
theorem listK_yes {f : Nat → Bool} {k : Nat} (h : f k = true) : listK f (k + 1) = listK f k ++ [(k : Int)] := by simp [listK, List.range_succ, List.filter_append, h]
theorem listK_no {f : Nat → Bool} {k : Nat} (h : f k = false) : listK f (k + 1) = listK f k := by simp [listK, List.range_succ, List.filter_append, h]
theorem listK_le (f : Nat → Bool) (k : Nat) : (listK f k).length ≤ k := by
  have := List.length_filter_le f (List.range k)
  simpa [listK] using this
theorem listB_le (f : Nat → Bool) : (listB f).length ≤ 32 := listK_le f 32
theorem listK_mem {f : Nat → Bool} {k : Nat} {d : Int} (h : d ∈ listK f k) : ∃ j : Nat, d = (j : Int) ∧ j < k ∧ f j = true := by
  simp only [listK, List.mem_map, List.mem_filter, List.mem_range] at h
  obtain ⟨j, ⟨hj, hf⟩, rfl⟩ := h
  exact ⟨j, rfl, hj, hf⟩
theorem listK_congr {f g : Nat → Bool} {k : Nat} (h : ∀ j, j < k → f j = g j) : listK f k = listK g k := by
  unfold listK
  congr 1
  exact List.filter_congr fun j hj => h j (List.mem_range.1 hj)
theorem listK_none {f : Nat → Bool} {k : Nat} (h : ∀ j, j < k → f j = false) : listK f k = [] := by
  induction k with
  | zero => rfl
  | succ k ih => rw [listK_no (h k (by omega)), ih fun j hj => h j (by omega)]
def memB (L : List Int) (j : Nat) : Bool := L.any fun d => decide (d = (j : Int))
theorem memB_iff {L : List Int} {j : Nat} : memB L j = true ↔ (j : Int) ∈ L := by
  unfold memB
  rw [List.any_eq_true]
  constructor
  · rintro ⟨d, hd, h⟩
    simp at h
    rwa [← h]
  · intro h
    exact ⟨_, h, by simp⟩
theorem memB_next {L : List Int} {k n : Nat} (h : L[k]? = some (n : Int)) (j : Nat) : memB (L.take (k + 1)) j = (memB (L.take k) j || decide (n = j)) := by
  unfold memB
  rw [List.take_add_one, h, List.any_append]
  have e : decide ((n : Int) = (j : Int)) = decide (n = j) := by rw [decide_eq_decide]; omega
  simp [e]
def gatN (L : List Int) : Nat := bitK (memB L) 32
theorem gat_next {L : List Int} {k n : Nat} (h : L[k]? = some (n : Int)) (hn : n < 31) : bits .or .u32 ((gatN (L.take k) : Nat) : Int) ((2 ^ n : Nat) : Int) = ((gatN (L.take (k + 1)) : Nat) : Int) := by
  have h2 : 2 ^ n < 2 ^ 32 := Nat.pow_lt_pow_right (by omega) (by omega)
  have h3 : 2 ^ n < 4294967296 := h2
  have hg : gatN (L.take k) < 4294967296 := bit32 _
  rw [u32_or_nat _ _ hg h3]
  congr 1
  refine ext32 (show _ < 2 ^ 32 from Nat.or_lt_two_pow hg h3) (bit32 _) fun j hj => ?_
  unfold gatN
  rw [Nat.testBit_or, bitK_test _ _ _ hj, bitK_test _ _ _ hj, memB_next h, Nat.testBit_two_pow]
theorem shl_u32 {k : Nat} (hk : k < 31) : (2 : Int) ^ k % 4294967296 = ((2 ^ k : Nat) : Int) := by
  have h2 : 2 ^ k < 2 ^ 32 := Nat.pow_lt_pow_right (by omega) (by omega)
  have e : (2 : Int) ^ k = ((2 ^ k : Nat) : Int) := by simp
  rw [e]
  have e2 : (2 : Nat) ^ 32 = 4294967296 := by decide
  rw [e2] at h2
  generalize 2 ^ k = P at *
  omega
theorem shr_one (x n : Nat) (hx : x < 4294967296) : bits .and .u32 ((x : Int) / 2 ^ n) 1 = if x.testBit n then 1 else 0 := by
  have e : (x : Int) / 2 ^ n = ((x / 2 ^ n : Nat) : Int) := by simp
  have h := bit_div (n := x) (j := n)
  rw [e, show (1 : Int) = ((1 : Nat) : Int) from rfl, u32_and_nat _ _ (Nat.lt_of_le_of_lt (Nat.div_le_self _ _) hx) (by decide), Nat.and_one_is_mod, h]
  split <;> rfl
theorem shr_eq (x n : Nat) (hx : x < 4294967296) : (bits .and .u32 ((x : Int) / 2 ^ n) 1 == 1) = x.testBit n := by
  rw [shr_one x n hx]
  cases x.testBit n <;> rfl
/-- The members of a number, where none is above k. -/
theorem listK_high {f : Nat → Bool} {k : Nat} (h : ∀ j, k ≤ j → f j = false) : ∀ {m : Nat}, k ≤ m → listK f m = listK f k := by
  intro m hm
  induction m with
  | zero =>
    obtain rfl : k = 0 := by omega
    rfl
  | succ m ih =>
    rcases Nat.lt_or_ge m k with h1 | h1
    · obtain rfl : k = m + 1 := by omega
      rfl
    · rw [listK_no (h m h1), ih h1]
theorem high_bits {n k j : Nat} (hn : n < 2 ^ k) (hj : k ≤ j) : n.testBit j = false :=
  Nat.testBit_lt_two_pow (Nat.lt_of_lt_of_le hn (Nat.pow_le_pow_right (by omega) hj))
theorem listB_small {n k : Nat} (hn : n < 2 ^ k) (hk : k ≤ 32) : listB n.testBit = listK n.testBit k := listK_high (fun j hj => high_bits hn hj) hk
theorem memB_listK (f : Nat → Bool) (k i : Nat) (hi : i < k) : memB (listK f k) i = f i := by
  rw [Bool.eq_iff_iff, memB_iff]
  constructor
  · intro h
    obtain ⟨j, he, _, hf⟩ := listK_mem h
    have : i = j := by omega
    rw [this]; exact hf
  · intro h
    exact List.mem_map.2 ⟨i, by simp [hi, h], rfl⟩
theorem setL_listK (f : Nat → Bool) (k : Nat) : setL k (listK f k) = true := by
  have hp : (listK f k).Pairwise (· < ·) := by
    unfold listK
    rw [List.pairwise_map]
    refine List.Pairwise.imp (fun {a b} h => ?_) (List.Pairwise.filter _ List.pairwise_lt_range)
    exact Int.ofNat_lt.2 h
  refine setL_ok fun j hj => ?_
  have hm : (listK f k)[j]? = some (listK f k)[j] := List.getElem?_eq_getElem hj
  obtain ⟨m, he, hlt, _⟩ := listK_mem (List.getElem_mem hj)
  unfold okI
  rw [getD_at hm, he, Bool.and_eq_true, decide_eq_true_eq, decide_eq_true_eq]
  refine ⟨?_, by omega⟩
  unfold prv
  by_cases h0 : j = 0
  · rw [if_pos h0]; omega
  · rw [if_neg h0]
    have hm2 : (listK f k)[j - 1]? = some (listK f k)[j - 1] := List.getElem?_eq_getElem (by omega)
    rw [getD_at hm2, ← he]
    exact List.pairwise_iff_getElem.1 hp (j - 1) j (by omega) hj (by omega)
theorem sorted_ext : ∀ {L M : List Int}, L.Pairwise (· < ·) → M.Pairwise (· < ·) → (∀ x, x ∈ L ↔ x ∈ M) → L = M
  | [], [], _, _, _ => rfl
  | [], b :: M, _, _, h => by have := (h b).2 List.mem_cons_self; cases this
  | a :: L, [], _, _, h => by have := (h a).1 List.mem_cons_self; cases this
  | a :: L, b :: M, hl, hm, h => by
    rw [List.pairwise_cons] at hl hm
    have hab : a = b := by
      rcases List.mem_cons.1 ((h a).1 List.mem_cons_self) with h1 | h1
      · exact h1
      · rcases List.mem_cons.1 ((h b).2 List.mem_cons_self) with h2 | h2
        · exact h2.symm
        · have := hm.1 a h1
          have := hl.1 b h2
          omega
    subst hab
    congr 1
    refine sorted_ext hl.2 hm.2 fun x => ?_
    constructor
    · intro hx
      rcases List.mem_cons.1 ((h x).1 (List.mem_cons_of_mem _ hx)) with h1 | h1
      · have := hl.1 x hx
        omega
      · exact h1
    · intro hx
      rcases List.mem_cons.1 ((h x).2 (List.mem_cons_of_mem _ hx)) with h1 | h1
      · have := hm.1 x hx
        omega
      · exact h1
theorem setL_pair {lim : Int} {L : List Int} (h : setL lim L = true) : L.Pairwise (· < ·) := by
  have key : ∀ j, j < L.length → ∀ i, i < j → L.getD i 0 < L.getD j 0 := by
    intro j
    induction j with
    | zero => intro _ i hi; omega
    | succ j ih =>
      intro hj i hi
      have h1 := setL_at h hj
      unfold okI prv at h1
      rw [if_neg (by omega), Nat.add_sub_cancel, Bool.and_eq_true, decide_eq_true_eq, decide_eq_true_eq] at h1
      rcases Nat.lt_or_ge i j with h2 | h2
      · have := ih (by omega) i h2
        omega
      · obtain rfl : i = j := by omega
        exact h1.1
  rw [List.pairwise_iff_getElem]
  intro i j hi hj hij
  have := key j hj i hij
  rwa [getD_at (List.getElem?_eq_getElem hi), getD_at (List.getElem?_eq_getElem hj)] at this
theorem listK_pair (f : Nat → Bool) (k : Nat) : (listK f k).Pairwise (· < ·) := by
  unfold listK
  rw [List.pairwise_map]
  refine List.Pairwise.imp (fun {a b} h => ?_) (List.Pairwise.filter _ List.pairwise_lt_range)
  exact Int.ofNat_lt.2 h
/-- A list in ascending order is the list of what it holds. -/
theorem setL_list {k : Nat} {L : List Int} (h : setL (k : Int) L = true) : listK (memB L) k = L :=
  sorted_ext (listK_pair _ _) (setL_pair h) fun x => by
    constructor
    · intro hx
      obtain ⟨j, rfl, _, hf⟩ := listK_mem hx
      exact memB_iff.1 hf
    · intro hx
      obtain ⟨h0, h1⟩ := set_mem h hx
      obtain ⟨j, rfl⟩ := Int.eq_ofNat_of_zero_le h0
      refine List.mem_map.2 ⟨j, ?_, rfl⟩
      rw [List.mem_filter]
      exact ⟨List.mem_range.2 (by omega), memB_iff.2 hx⟩
def cntK (f : Nat → Bool) : Nat → Nat
  | 0 => 0
  | k + 1 => cntK f k + if f k then 1 else 0
theorem cntK_list (f : Nat → Bool) : ∀ k, (listK f k).length = cntK f k
  | 0 => rfl
  | k + 1 => by
    rw [cntK]
    cases h : f k
    · rw [listK_no h, cntK_list f k]; rfl
    · rw [listK_yes h, List.length_append, cntK_list f k]; rfl
theorem cntK_add (f : Nat → Bool) (a : Nat) : ∀ b, cntK f (a + b) = cntK f a + cntK (fun j => f (a + j)) b
  | 0 => rfl
  | b + 1 => by
    rw [← Nat.add_assoc, cntK, cntK, cntK_add f a b]
    omega
theorem cntK_congr {f g : Nat → Bool} : ∀ {k : Nat}, (∀ j, j < k → f j = g j) → cntK f k = cntK g k
  | 0, _ => rfl
  | k + 1, h => by rw [cntK, cntK, cntK_congr fun j hj => h j (by omega), h k (by omega)]
theorem cntK_le (f : Nat → Bool) : ∀ k, cntK f k ≤ k
  | 0 => Nat.le_refl _
  | k + 1 => by
    have := cntK_le f k
    rw [cntK]
    split <;> omega
end Go.Proofs.Ytfmhanpibgmgfaa
